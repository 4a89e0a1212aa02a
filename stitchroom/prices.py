"""Rows of stitches told by parts in the fewest words: a stitch is one word, a repeat is one and those of its parts."""

from stitchroom.sums import plain_sum


def words(parts):
    """How many words a list of parts has."""
    return sum([1 if part[0] == "one" else 1 + words(part[2]) for part in parts])


def fewest(stitches):
    """A list for each place of the row: the fewest words of the stretches that begin there, by lengths from 1 on."""
    marks = [stitch.mark() for stitch in stitches]
    table = [[] for mark in marks]
    for length in range(1, len(marks) + 1):
        for start in range(len(marks) - length + 1):
            table[start].append(fewest_of_stretch(marks, table, start, length))
    return table


def shortest(stitches):
    """A list of parts that tells the row in the fewest words."""
    marks = [stitch.mark() for stitch in stitches]
    return told_stretch(stitches, marks, fewest(stitches), 0, len(marks))


# A telling of two stitches or more is one repeat, or it can be cut between two of its parts.
def fewest_of_stretch(marks, table, start, length):
    """The fewest words of a stretch, all shorter ones being in the table."""
    if length == 1:
        return 1
    cut = [words_of_cut(table, start, length, first) for first in range(1, length)]
    repeats = [1 + table[start][once - 1] for once in lengths_once(marks, start, length)]
    return min(cut + repeats)


def words_of_cut(table, start, length, first):
    """The fewest words of a stretch that is told by two, the first one of this length."""
    return table[start][first - 1] + table[start + first][length - first - 1]


def lengths_once(marks, start, length):
    """The lengths of what comes to the stretch when it is worked twice or more."""
    return [once for once in range(1, length // 2 + 1) if comes_again(marks, start, length, once)]


def comes_again(marks, start, length, once):
    end = start + length
    return length % once == 0 and marks[start:end - once] == marks[start + once:end]


# Where a repeat has as many words as a cut, the cut is told: it has fewer brackets to be read.
def told_stretch(stitches, marks, table, start, length):
    """A shortest telling of a stretch."""
    if length < 2:
        return [("one", stitch) for stitch in stitches[start:start + length]]
    least = table[start][length - 1]
    for first in range(1, length):
        if words_of_cut(table, start, length, first) == least:
            ahead = told_stretch(stitches, marks, table, start, first)
            return ahead + told_stretch(stitches, marks, table, start + first, length - first)
    repeats = [once for once in lengths_once(marks, start, length) if 1 + table[start][once - 1] == least]
    return [("times", plain_sum(length // repeats[0]), told_stretch(stitches, marks, table, start, repeats[0]))]
