"""What parts take, give, put on keepers and fetch from them, in sums; and choices at which two sums do not agree."""

from stitchroom.stitches import KEEPERS
from stitchroom.sums import NOUGHT, plain_sum, product, total


def counts(parts):
    """A tuple (takes, gives, keeps, fetches), the latter two lists of a sum for each keeper; or NoSum."""
    found = (NOUGHT, NOUGHT, [NOUGHT for keeper in KEEPERS], [NOUGHT for keeper in KEEPERS])
    for part in parts:
        found = counts_added(found, part_counts(part))
    return found


def part_counts(part):
    if part[0] == "one":
        return stitch_counts(part[1])
    return counts_times(counts(part[2]), part[1])


def stitch_counts(stitch):
    words = [end[1] for end in stitch.ends()]
    ties = stitch.ties()
    keeps = [plain_sum(words.count(keeper)) for keeper in KEEPERS]
    fetches = [plain_sum(ties.count(("from", keeper))) for keeper in KEEPERS]
    return (plain_sum(stitch.takes()), plain_sum(stitch.gives()), keeps, fetches)


def counts_added(one, other):
    """The counts of two things worked one behind the other."""
    return (total(one[0], other[0]), total(one[1], other[1]), totals(one[2], other[2]), totals(one[3], other[3]))


def totals(some, others):
    return [total(one, other) for one, other in zip(some, others)]


def counts_times(one, often):
    """The counts of a thing that is worked as often as a sum tells; or NoSum."""
    keeps = [product(number, often) for number in one[2]]
    fetches = [product(number, often) for number in one[3]]
    return (product(one[0], often), product(one[1], often), keeps, fetches)


def choice_of(lies, asked, many=0):
    """A choice at which the sums are not the same number, or None.

    With many above 0: one at which the first sum is below the second, or not beyond it by a whole number of times many.
    """
    gaps = [one - other for one, other in zip(lies, asked)]
    for place, gap in enumerate(gaps):
        if not is_fit(gap, many):
            return choice_with(place, gaps[0], gap, many)
    return None


def is_fit(gap, many):
    if many == 0:
        return gap == 0
    return gap >= 0 and gap % many == 0


def choice_with(place, first, gap, many):
    """The choice at which the gap at this place tells, all gaps ahead of it being fit."""
    choice = [0, 0, 0, 0]
    if place > 0:
        choice[place - 1] = telling_size(first, gap, many)
    return choice


# The first gap is fit, so a gap that is no whole number of times many spoils it at once. One that is such a number is
# below 0, and must come in so often that it outweighs the first.
def telling_size(first, gap, many):
    if many == 0 or gap % many != 0:
        return 1
    return first // -gap + 1
