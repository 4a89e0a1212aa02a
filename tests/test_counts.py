"""The counts of parts, and choices at which two sums do not agree: promises [2], [12] and [15]."""

import copy
import random
import unittest

from stitchroom.counts import choice_of, counts
from stitchroom.errors import NoSum
from stitchroom.patterns import Pattern
from stitchroom.reader import read
from stitchroom.stitches import Fetch, Keep, Plain
from tests.helper import (
    KEEPERS, NOUGHT, Curved, all_made, all_marks, marked, number_of, one, ones, plain, polynomials, sum_of_polynomial,
)

A = (0, 1, 0, 0, 0)
B = (0, 0, 1, 0, 0)
GREAT = (999999999999999999, 0, 123456789012345678, 0, 0)
NONE = (NOUGHT, NOUGHT, [NOUGHT] * 4, [NOUGHT] * 4)
CHOICES = [[0, 0, 0, 0], [1, 0, 0, 0], [0, 1, 0, 0], [3, 1, 4, 1], [10 ** 18, 7, 0, 10 ** 30]]


def expected(parts):
    """The counts as polynomials of the sizes tell them; Curved where they are no sums."""
    found = polynomials(parts)
    return (
        sum_of_polynomial(found["takes"]), sum_of_polynomial(found["gives"]),
        [sum_of_polynomial(found["h" + keeper]) for keeper in KEEPERS],
        [sum_of_polynomial(found["f" + keeper]) for keeper in KEEPERS],
    )


def within(parts, often):
    """The parts, one ("times", ..) around the other for each of these sums, the first one innermost."""
    for times in often:
        parts = [("times", times, parts)]
    return parts


class Counting(unittest.TestCase):
    def check_kinds(self, told):
        self.assertIs(type(told), tuple)
        self.assertEqual(len(told), 4)
        self.assertIs(type(told[2]), list)
        self.assertIs(type(told[3]), list)
        self.assertEqual((len(told[2]), len(told[3])), (4, 4))
        for each in [told[0], told[1]] + told[2] + told[3]:
            self.assertIs(type(each), tuple)
            self.assertEqual([type(number) for number in each], [int] * 5)

    def refused(self, parts):
        with self.assertRaises(NoSum) as refusal:
            counts(parts)
        self.assertIsNone(refusal.exception.row)


class TestCounts(Counting):
    def test_none(self):
        self.assertEqual(counts([]), NONE)
        self.check_kinds(counts([]))

    def test_each_stitch_alone(self):
        for kind, given, mark in all_made():
            stitch = kind(*given)
            keeps, fetches = [NOUGHT] * 4, [NOUGHT] * 4
            if kind is Keep:
                keeps[KEEPERS.index(given[0])] = plain(1)
            if kind is Fetch:
                fetches[KEEPERS.index(given[0])] = plain(1)
            told = counts([("one", stitch)])
            self.assertEqual(told, (plain(stitch.takes()), plain(stitch.gives()), keeps, fetches), mark)
            self.assertEqual(told, expected([("one", stitch)]), mark)
            self.check_kinds(told)

    def test_by_hand(self):
        for text, told in (
            ("k, p, s", (plain(3), plain(3), [NOUGHT] * 4, [NOUGHT] * 4)),
            ("k4l, o, b, kx3", (plain(6), plain(5), [NOUGHT] * 4, [NOUGHT] * 4)),
            ("c2f1, q4b4", (plain(11), plain(11), [NOUGHT] * 4, [NOUGHT] * 4)),
            ("hw, hw, hz, fx, fy, fy", (plain(3), plain(3), [plain(2), NOUGHT, NOUGHT, plain(1)],
                                        [NOUGHT, plain(1), plain(2), NOUGHT])),
            ("[k2r, o, o] 2a+3", ((6, 4, 0, 0, 0), (9, 6, 0, 0, 0), [NOUGHT] * 4, [NOUGHT] * 4)),
            ("k, [[hx] b+1, px2] 5", ((11, 0, 5, 0, 0), plain(11), [NOUGHT, (5, 0, 5, 0, 0), NOUGHT, NOUGHT],
                                      [NOUGHT] * 4)),
            ("[[fz, b] 4] c+2d, fz", ((0, 0, 0, 4, 8), (1, 0, 0, 4, 8), [NOUGHT] * 4,
                                      [NOUGHT, NOUGHT, NOUGHT, (1, 0, 0, 4, 8)])),
            ("[k] 0, [[p] 0] a, [[s] d] 0", NONE),
        ):
            parts = read("flat; cast 0; row " + text).things[0][1]
            self.assertEqual(counts(parts), told, text)
            self.check_kinds(counts(parts))

    def test_all_stitches_as_often_as_a_sum_tells(self):
        parts = ones(*all_marks())
        for often in (NOUGHT, plain(1), plain(7), A, (2, 0, 3, 0, 5), GREAT):
            told = counts([("times", often, parts)])
            self.assertEqual(told, expected([("times", often, parts)]))
            for each, alone in zip([told[0], told[1]] + told[2] + told[3], self.flat(counts(parts))):
                self.assertEqual(each, tuple(alone[0] * number for number in often))

    def flat(self, told):
        return [told[0], told[1]] + told[2] + told[3]

    def test_eight_deep(self):
        parts = ones("k", "k2r", "kx3", "hw", "hz", "fx", "fx")
        eighteen = 999999999999999999
        for often, times in (
            ([plain(2)] * 8, plain(256)),
            ([plain(1)] * 7 + [A], A),
            ([A] + [plain(3)] * 7, (0, 2187, 0, 0, 0)),
            ([plain(2)] * 3 + [(1, 2, 0, 0, 4)] + [plain(5)] * 4, (5000, 10000, 0, 0, 20000)),
            ([plain(eighteen)] * 8, plain(eighteen ** 8)),
            ([plain(eighteen)] * 4 + [GREAT] + [plain(eighteen)] * 3, tuple(eighteen ** 7 * each for each in GREAT)),
            ([plain(2)] * 4 + [NOUGHT] + [plain(2)] * 3, NOUGHT),
            ([NOUGHT] + [A] * 7, NOUGHT),
            ([A, NOUGHT, B, GREAT, A, NOUGHT, plain(3), B], NOUGHT),
        ):
            told = counts([one("p")] + within(parts, often) + [one("s")])
            by_hand = [tuple(number * each for each in times) for number in (6, 7, 1, 0, 0, 1, 0, 2, 0, 0)]
            by_hand[0] = (by_hand[0][0] + 2,) + by_hand[0][1:]
            by_hand[1] = (by_hand[1][0] + 2,) + by_hand[1][1:]
            self.assertEqual(self.flat(told), by_hand)
            self.check_kinds(told)

    def test_worth_of_the_counts(self):
        parts = read("flat; cast 0; row [k, [hw, fz] 3, kx2] 2a+d+1, [c1f1] 4b, [k3l, hw] c, o").things[0][1]
        for choice in CHOICES:
            a, b, c, d = choice
            often = 2 * a + d + 1
            by_hand = [often * 5 + b * 8 + c * 4, often * 6 + b * 8 + c + 1, often * 3 + c, 0, 0, 0, 0, 0, 0, often * 3]
            self.assertEqual([number_of(each, choice) for each in self.flat(counts(parts))], by_hand)


class TestRefused(Counting):
    def test_products_of_two_sized_sums(self):
        for mark in all_marks():
            for often in ([A, A], [A, B], [(1, 1, 0, 0, 0), (7, 0, 0, 0, 1)], [A, plain(3), B], [A, A, NOUGHT],
                          [plain(2), A, plain(1), plain(1), GREAT], [A] * 8):
                parts = within(ones(mark), often)
                self.refused(parts)
                self.refused(ones("k") + parts)
                self.refused(parts + ones("k"))
                self.refused([("times", NOUGHT, ones("k") + parts)])

    def test_where_just_one_of_the_counts_is_sized(self):
        for mark in ("o", "b", "hy", "fy"):
            self.refused([("times", B, ones("k") + within(ones(mark), [A]))])

    def test_nothing_is_refused_where_one_of_both_is_not_sized(self):
        for often in ([NOUGHT, A, B], [A, NOUGHT, B], [A], [plain(2), A, plain(2)]):
            self.check_kinds(counts(within(ones("kx2", "hw", "fx"), often)))

    def test_drawn_parts(self):
        draw = random.Random(12)
        seen = {True: 0, False: 0}
        for turn in range(1500):
            parts = self.drawn_parts(draw, draw.randrange(1, 6))
            try:
                told = expected(parts)
            except Curved:
                self.refused(parts)
                seen[False] += 1
                continue
            self.assertEqual(counts(parts), told)
            seen[True] += 1
        self.assertGreater(min(seen.values()), 300)

    def drawn_parts(self, draw, deep):
        parts = []
        for turn in range(draw.randrange(1, 4)):
            if deep == 0 or draw.randrange(3) == 0:
                parts.append(one(draw.choice(all_marks())))
            else:
                often = draw.choice((NOUGHT, plain(1), plain(2), plain(10 ** 18 - 1), plain(3), A, (4, 0, 1, 0, 3)))
                parts.append(("times", often, self.drawn_parts(draw, deep - 1)))
        return parts


class TestNothingChanges(Counting):
    def test_the_parts_stay(self):
        parts = read("flat; cast 0; row k, [[hw] 2, [fx, p2l] a] 3, c1f1").things[0][1]
        before = copy.deepcopy(parts)
        counts(parts)
        self.assertEqual(marked(parts), marked(before))
        with self.assertRaises(NoSum):
            counts(parts + within(ones("k"), [A, B]))
        self.assertEqual(marked(parts), marked(before))

    def test_told_lists_are_new_ones(self):
        for parts in ([], ones("hw"), ones("fx", "hz"), within(ones("hw", "fw"), [A, plain(3)])):
            told = counts(parts)
            before = copy.deepcopy(told)
            self.assertIsNot(told[2], told[3])
            told[2][0] = plain(77)
            told[3].clear()
            self.assertEqual(counts(parts), before)
            told[2].append("more")
            self.assertEqual(counts(parts), before)
            self.assertEqual(counts([]), NONE)

    def test_patterns_stay(self):
        pattern = Pattern("flat", NOUGHT, [("row", [("times", A, [("one", Plain(1))])], False)])
        counts(pattern.things[0][1])[2].append(1)
        self.assertEqual(marked(pattern.things), [("row", [("times", A, [("one", "k")])], False)])


class TestChoice(unittest.TestCase):
    def fits(self, lies, asked, many):
        """Point 15's words, for all choices at once."""
        gaps = [one_number - other for one_number, other in zip(lies, asked)]
        if many == 0:
            return gaps == [0] * 5
        return all(gap >= 0 and gap % many == 0 for gap in gaps)

    def fits_at(self, lies, asked, many, choice):
        gap = number_of(lies, choice) - number_of(asked, choice)
        return gap == 0 if many == 0 else gap >= 0 and gap % many == 0

    def check_told(self, choice, lies, asked, many):
        if self.fits(lies, asked, many):
            self.assertIsNone(choice, (lies, asked, many))
            return False
        self.assertIs(type(choice), list)
        self.assertEqual([type(size) for size in choice], [int] * 4, (lies, asked, many))
        self.assertGreaterEqual(min(choice), 0)
        self.assertFalse(self.fits_at(lies, asked, many, choice), (lies, asked, many, choice))
        return True

    def check(self, lies, asked, many):
        told = self.check_told(choice_of(lies, asked, many), lies, asked, many)
        self.check_told(choice_of(lies, asked, many=many), lies, asked, many)
        if many == 0:
            self.check_told(choice_of(lies, asked), lies, asked, 0)
        return told

    def test_by_hand(self):
        for lies, asked, many, told in (
            (NOUGHT, NOUGHT, 0, False), (NOUGHT, NOUGHT, 1, False), (NOUGHT, NOUGHT, 5, False),
            (plain(3), plain(3), 0, False), (plain(3), plain(2), 0, True), (plain(2), plain(3), 0, True),
            (A, A, 0, False), (A, B, 0, True), (A, NOUGHT, 0, True), (NOUGHT, A, 0, True), (A, plain(1), 0, True),
            (plain(3), plain(2), 1, False), (plain(2), plain(3), 1, True), (plain(4), plain(1), 3, False),
            (plain(5), plain(1), 3, True), (plain(1), plain(4), 3, True),
            (A, NOUGHT, 1, False), (NOUGHT, A, 1, True), (plain(100), A, 1, True), ((100, 2, 0, 0, 0), A, 1, False),
            ((6, 3, 0, 0, 9), (0, 0, 0, 0, 3), 3, False), ((6, 3, 0, 0, 9), (0, 0, 0, 0, 3), 2, True),
            ((6, 0, 0, 0, 0), (0, 3, 0, 0, 0), 3, True), ((6, 0, 0, 0, 9), (0, 0, 0, 0, 12), 3, True),
            ((10 ** 18 - 1, 0, 0, 0, 0), (0, 0, 0, 0, 1), 1, True), ((5, 1, 1, 1, 1), (5, 1, 1, 1, 1), 0, False),
        ):
            self.assertEqual(self.check(lies, asked, many), told, (lies, asked, many))

    def test_drawn_sums(self):
        draw = random.Random(5)
        seen = {}
        for turn in range(30000):
            lies = self.drawn_sum(draw)
            many = draw.choice((0, 0, 1, 1, 2, 3, 4, 7, 10 ** 17 + 1))
            asked = self.near(draw, lies, many) if draw.randrange(3) else self.drawn_sum(draw)
            told = self.check(lies, asked, many)
            seen[many, told] = seen.get((many, told), 0) + 1
        self.assertEqual(len(seen), 7 * 2)
        self.assertGreater(min(seen.values()), 100, seen)

    def drawn_sum(self, draw):
        most = draw.choice((2, 3, 10, 10 ** 18))
        return tuple(draw.randrange(most) if draw.randrange(3) else 0 for place in range(5))

    def near(self, draw, lies, many):
        """A sum that is the same, or below by a whole number of times many, but perhaps at one or two places."""
        asked = [number - many * draw.randrange(number // many + 1) if many else number for number in lies]
        for turn in range(draw.choice((0, 0, 1, 2))):
            asked[draw.randrange(5)] += draw.choice((1, 1, 2, many, many, 10 ** 18 - 1))
        return tuple(asked)

    def test_told_again_it_is_the_same(self):
        for lies, asked, many in ((A, B, 0), (NOUGHT, A, 3), (plain(1), NOUGHT, 0), (plain(9), (0, 0, 0, 2, 0), 1)):
            told = choice_of(lies, asked, many)
            before = list(told)
            told[0] = 99
            told.append(1)
            self.assertEqual(choice_of(lies, asked, many), before)


if __name__ == "__main__":
    unittest.main()
