"""Sums of the four sizes: a plain number, and how many times a, b, c and d."""

from stitchroom.errors import NoSum

SIZES = ("a", "b", "c", "d")
NOUGHT = (0, 0, 0, 0, 0)


def plain_sum(number):
    return (number, 0, 0, 0, 0)


def total(one, other):
    """The sum of both added."""
    return tuple([number + more for number, more in zip(one, other)])


def product(one, other):
    """The product of two sums of which at most one is sized; else it is no sum, and refused with NoSum."""
    if not is_sized(one):
        return repeated(other, one[0])
    if not is_sized(other):
        return repeated(one, other[0])
    raise NoSum()


def repeated(one, often):
    return tuple([number * often for number in one])


def worth(one, choice):
    """The number that a sum comes to at a choice of sizes."""
    return one[0] + sum([number * size for number, size in zip(one[1:], choice)])


def is_sized(one):
    """Whether a sum hangs on a size."""
    return any([number != 0 for number in one[1:]])


def sum_text(one):
    """The sum as text: its terms that are not 0, the sizes first; 0 where there are none."""
    terms = [size_term(number, size) for number, size in zip(one[1:], SIZES) if number != 0]
    if one[0] != 0 or not terms:
        terms.append(str(one[0]))
    return "+".join(terms)


def size_term(number, size):
    return size if number == 1 else str(number) + size
