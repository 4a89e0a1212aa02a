"""The rows of a pattern as they are really worked at a choice of sizes, stitch by stitch."""

from stitchroom.errors import TooMany
from stitchroom.looker import MOST_ROWS, walked, walked_many, written_rows
from stitchroom.sums import is_sized, worth

MOST_STITCHES = 3000


def rows_at(pattern, choice):
    """A list of tuples (number of the row, list of its stitches, turn); refused as look does, or with TooMany."""
    steps = walked(pattern)
    if worked_many(pattern.things, choice) > MOST_ROWS:
        raise TooMany()
    rows = written_rows(pattern.things)
    numbers = []
    works = []
    for step in worked_steps(pattern.things, steps, choice):
        numbers.append(step[0])
        works.append(parts_of(rows[step[0]], step[3]))
    if sum([stitches_many(parts, choice) for parts in works]) > MOST_STITCHES:
        raise TooMany()
    return [(number, unrolled(parts, choice), rows[number][2]) for number, parts in zip(numbers, works)]


def unrolled(parts, choice):
    """The list of the stitches of some parts at a choice, one by one."""
    stitches = []
    for part in parts:
        if part[0] == "one":
            stitches.append(part[1])
        else:
            stitches.extend(unrolled_often(part[2], worth(part[1], choice), choice))
    return stitches


# Where nothing comes of it, neither the parts nor the times are gone through: both may be too many.
def unrolled_often(parts, often, choice):
    once = [] if often == 0 else unrolled(parts, choice)
    return once * often if once else []


def stitches_many(parts, choice):
    """How many stitches some parts have at a choice."""
    many = 0
    for part in parts:
        many += 1 if part[0] == "one" else worth(part[1], choice) * stitches_many(part[2], choice)
    return many


def worked_many(items, choice):
    """How many rows are worked at a choice, all blocks as often as their sums are worth."""
    many = 0
    for item in items:
        many += 1 if item[0] == "row" else worth(item[1], choice) * worked_many(item[2], choice)
    return many


def worked_steps(items, steps, choice):
    """Of the steps walked through some items those that are worked: a sized block's as often as its sum is worth."""
    worked = []
    place = 0
    for item in items:
        behind = place + walked_many([item])
        worked.extend(item_steps(item, steps[place:behind], choice))
        place = behind
    return worked


def item_steps(item, steps, choice):
    if item[0] == "row":
        return steps
    if is_sized(item[1]):
        return worked_steps(item[2], steps, choice) * worth(item[1], choice)
    worked = []
    once = len(steps) // item[1][0]
    for place in range(0, len(steps), once):
        worked.extend(worked_steps(item[2], steps[place:place + once], choice))
    return worked


def parts_of(row, often):
    """The parts of a row, its rest among them as a part that is worked so often."""
    if len(row) == 3:
        return row[1]
    return row[1] + [("times", often, row[3])] + row[4]
