"""Patterns looked at: worked by counts, with sums in the place of numbers, and refused where they do not agree."""

from stitchroom.counts import choice_of, counts, counts_added, counts_times
from stitchroom.errors import Miscount, NoSum, TooMany
from stitchroom.stitches import KEEPERS
from stitchroom.sums import NOUGHT, is_sized, total, worth

MOST_ROWS = 300


class Walk:
    """The sums that lie on the needles and the keepers of a pattern on the way through it, and the steps so far."""

    def __init__(self, pattern, counted):
        self.way = pattern.way
        self.counted = counted
        self.hand = pattern.cast
        self.other = NOUGHT
        self.kept = [NOUGHT for keeper in KEEPERS]
        self.steps = []

    def all_sums(self):
        return [self.hand, self.other] + self.kept


def look(pattern):
    """A list of tuples (number of the row, sum on the needle in hand, sum on the other one), for each row walked.

    A pattern that does not go well by counts is refused with NoSum, TooMany or Miscount.
    """
    return [step[:3] for step in walked(pattern)]


def walked(pattern):
    """What look tells, and at the end of each tuple the sum of times that the row's rest is worked."""
    walk = Walk(pattern, counted_rows(written_rows(pattern.things)))
    if walked_many(pattern.things) > MOST_ROWS:
        raise TooMany()
    behind = walk_items(walk, pattern.things, 0)
    lies = total(walk.hand, walk.other)
    refuse_at(choice_of(lies, NOUGHT), behind, "end", lies, NOUGHT)
    return walk.steps


def written_rows(items):
    """The rows as they are written, those within blocks among them."""
    rows = []
    for item in items:
        rows.extend([item] if item[0] == "row" else written_rows(item[2]))
    return rows


def counted_rows(rows):
    counted = []
    for number, row in enumerate(rows):
        try:
            counted.append(row_counts(row))
        except NoSum:
            raise NoSum(number) from None
    return counted


def row_counts(row):
    """A tuple: the counts of all that a row works once, and those of its rest, None where it has none."""
    if len(row) == 3:
        return (counts(row[1]), None)
    rest = counts(row[3])
    if rest[0][0] < 1 or any([is_sized(one) for one in [rest[0], rest[1]] + rest[2] + rest[3]]):
        raise NoSum()
    return (counts(row[1] + row[4]), rest)


def walked_many(items):
    """How many rows are walked: those of a sized block once, those of another one as often as it tells."""
    many = 0
    for item in items:
        if item[0] == "row":
            many += 1
        else:
            many += walked_many(item[2]) * (1 if is_sized(item[1]) else item[1][0])
    return many


def walk_items(walk, items, number):
    """Walks the items, of which the first row has this number, and tells the number that is next behind them."""
    for item in items:
        if item[0] == "row":
            walk_row(walk, item, number)
            number += 1
        else:
            number = walk_block(walk, item, number)
    return number


def walk_block(walk, block, number):
    behind = number
    if is_sized(block[1]):
        ahead = walk.all_sums()
        behind = walk_items(walk, block[2], number)
        for lies, asked in zip(walk.all_sums(), ahead):
            refuse_at(choice_of(lies, asked), number, "block", lies, asked)
    else:
        for again in range(block[1][0]):
            behind = walk_items(walk, block[2], number)
    return behind


def walk_row(walk, row, number):
    once = walk.counted[number][0]
    rest = walk.counted[number][1]
    refuse_at(choice_of(walk.hand, once[0], unit(row, rest)), number, "needle", walk.hand, once[0])
    often = times_of_rest(walk.hand, once, rest)
    whole = once if rest is None else counts_added(once, counts_times(rest, often))
    walk.steps.append((number, walk.hand, walk.other, often))
    walk.kept = kept_behind(walk.kept, whole, number)
    left = gap_of(walk.hand, whole[0])
    if walk.way == "round":
        walk.hand = whole[1]
    else:
        walk.hand = total(walk.other, whole[1])
        walk.other = left


def unit(row, rest):
    """By how many loops, or any times that, the needle may have more than the row takes once; 0 where by none."""
    if rest is not None:
        return rest[0][0]
    return 1 if row[2] else 0


def times_of_rest(hand, once, rest):
    if rest is None:
        return NOUGHT
    return tuple([number // rest[0][0] for number in gap_of(hand, once[0])])


def gap_of(one, other):
    return tuple([number - less for number, less in zip(one, other)])


def kept_behind(kept, whole, number):
    """What lies on the keepers behind a row with these counts, which must fetch all from those that it names."""
    behind = []
    for keeper, lies, put, fetched in zip(KEEPERS, kept, whole[2], whole[3]):
        if put == NOUGHT and fetched == NOUGHT:
            behind.append(lies)
        else:
            refuse_at(choice_of_ones(lies, fetched), number, keeper, lies, fetched)
            behind.append(put)
    return behind


# A row that names a keeper by its sums may name it no more where a size is 0, and asks nothing of it there. Where no
# size is 0 it does name it.
def choice_of_ones(lies, asked):
    """A choice at which the sums are not the same number and no size is 0, or None."""
    choice = choice_of(raised(lies), raised(asked))
    return None if choice is None else [size + 1 for size in choice]


def raised(one):
    """The sum that is worth at each choice what this one is worth where each size is greater by 1."""
    return (sum(one),) + one[1:]


def refuse_at(choice, row, place, lies, asked):
    """Refuses with Miscount where there is a choice at which what lies there is not what is asked."""
    if choice is not None:
        raise Miscount(row, place, choice, worth(lies, choice), worth(asked, choice))
