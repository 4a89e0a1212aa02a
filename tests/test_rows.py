"""The rows of a pattern at a choice: promises [2], [3] and [17]."""

import copy
import itertools
import random
import unittest

from stitchroom.errors import Miscount, NoSum, TooMany
from stitchroom.looker import look
from stitchroom.patterns import Pattern
from stitchroom.reader import read
from stitchroom.rows import rows_at, unrolled
from stitchroom.stitches import Plain, Stitch
from stitchroom.writer import shown
from tests.helper import (
    NOUGHT, Drawn, NumberWork, all_marks, at_once, changed_text, marked, marks_of, number_of, one, ones, plain,
    read_or_none, refusal_of,
)

A = (0, 1, 0, 0, 0)
NO_SIZE = [0, 0, 0, 0]
GREAT = 10 ** 18 - 1
CHOICES = [NO_SIZE, [1, 0, 0, 0], [0, 1, 2, 0], [2, 1, 0, 3], [1, 1, 1, 1], [4, 5, 3, 2]]


def parts_of(text):
    return read("flat; cast 0; row " + text).things[0][1]


def work_at(pattern, choice):
    """How many rows and stitches there are at a choice, in numbers, of a pattern that look lets by."""
    steps = iter(look(pattern))

    def many(parts):
        return sum(1 if part[0] == "one" else number_of(part[1], choice) * many(part[2]) for part in parts)

    def takes(parts):
        return sum(
            part[1].takes() if part[0] == "one" else number_of(part[1], choice) * takes(part[2]) for part in parts)

    def row_of(row):
        hand = number_of(next(steps)[1], choice)
        stitches = many(row[1])
        if len(row) == 5:
            often = (hand - takes(row[1]) - takes(row[4])) // takes(row[3])
            stitches += many(row[4]) + often * many(row[3])
        return (1, stitches)

    def items_of(items):
        rows = stitches = 0
        for item in items:
            if item[0] == "row":
                found = [row_of(item)]
            elif any(item[1][1:]):
                often = number_of(item[1], choice)
                found = [tuple(often * number for number in items_of(item[2]))]
            else:
                found = [items_of(item[2]) for turn in range(item[1][0])]
            rows += sum(each[0] for each in found)
            stitches += sum(each[1] for each in found)
        return (rows, stitches)

    return items_of(pattern.things)


class Rows(unittest.TestCase):
    def check_kinds(self, told):
        self.assertIs(type(told), list)
        for row in told:
            self.assertIs(type(row), tuple)
            self.assertEqual([type(each) for each in row], [int, list, bool])
            for stitch in row[1]:
                self.assertIsInstance(stitch, Stitch)

    def is_told(self, text, choice, rows):
        """At the choice these are the rows: number, marks with blanks between, turn."""
        told = rows_at(read(text), choice)
        self.check_kinds(told)
        self.assertEqual(marked(told), [(number, marks.split(), turn) for number, marks, turn in rows])

    def too_many(self, text, choice):
        with self.assertRaises(TooMany):
            rows_at(read(text), choice)

    def fits(self, text, choice, rows, stitches):
        """There are just so many rows and stitches, and they are told."""
        told = rows_at(read(text), choice)
        self.assertEqual((len(told), sum(len(row[1]) for row in told)), (rows, stitches))


class TestRows(Rows):
    def test_the_pattern_of_the_document(self):
        text = ("flat; cast 2a+3; row k, [p, k] a, k2r; 3 times (row rest [k]; row p turn; row k); "
                "a+1 times (row p, rest [p], s); row rest [b]")
        middle = [(1, "k k", False), (2, "p", True), (3, "k", False)] * 3
        self.is_told(text, NO_SIZE, [(0, "k k2r", False)] + middle + [(4, "p s", False), (5, "b b", False)])
        middle = [(1, "k k k k", False), (2, "p", True), (3, "k", False)] * 3
        last = [(4, "p p p s", False)] * 2 + [(5, "b b b b", False)]
        self.is_told(text, [1, 0, 0, 0], [(0, "k p k k2r", False)] + middle + last)
        self.is_told(text, [1, 9, 9, 9], [(0, "k p k k2r", False)] + middle + last)

    def test_parts_and_rests(self):
        text = ("round; cast 7a+b+2; row k, [p, [s, k2r] 2] a, [kx2] b, p; row [k] 2b, rest [k2l], k, [s] 3a, p; "
                "row rest [b]")
        for a, b in itertools.product(range(4), range(4)):
            self.is_told(text, [a, b, 5, 6], [
                (0, " ".join(["k"] + ["p", "s", "k2r", "s", "k2r"] * a + ["kx2"] * b + ["p"]), False),
                (1, " ".join(["k"] * (2 * b) + ["k2l"] * a + ["k"] + ["s"] * (3 * a) + ["p"]), False),
                (2, " ".join(["b"] * (2 * b + a + 3 * a + 2)), False),
            ])

    def test_rows_without_stitches(self):
        self.is_told("round; cast 0; row [k] 0", NO_SIZE, [(0, "", False)])
        self.is_told("flat; cast a; row [k] a turn; row rest [p]; row [[b] a] 1; a+1 times (row [k] 0)", NO_SIZE, [
            (0, "", True), (1, "", False), (2, "", False), (3, "", False)])
        self.is_told("flat; cast a; row [k] a turn; row rest [p]; row [[b] a] 1; a+1 times (row [k] 0)", [2, 0, 0, 0], [
            (0, "k k", True), (1, "p p", False), (2, "b b", False), (3, "", False), (3, "", False), (3, "", False)])

    def test_turns(self):
        self.is_told("flat; cast 4; row k, k turn; row p turn; row rest [k]; row rest [b]; row rest [b]", NO_SIZE, [
            (0, "k k", True), (1, "p", True), (2, "k k k", False), (3, "b b b b", False), (4, "", False)])

    def test_rests_in_a_block_that_is_not_sized(self):
        self.is_told("round; cast a+1; 3 times (row rest [kx2]); row rest [b]", NO_SIZE, [
            (0, "kx2", False), (0, "kx2 kx2", False), (0, "kx2 kx2 kx2 kx2", False), (1, " ".join(["b"] * 8), False)])

    def test_blocks_within_blocks(self):
        text = "round; cast 1; 2 times (a+1 times (row k; b+1 times (row p); 2 times (row s)); row [k] 1); row b"
        for a, b in itertools.product(range(3), range(3)):
            inner = [(0, "k", False)] + [(1, "p", False)] * (b + 1) + [(2, "s", False)] * 2
            self.is_told(text, [a, b, 7, 7], (inner * (a + 1) + [(3, "k", False)]) * 2 + [(4, "b", False)])

    def test_a_block_in_a_sized_block_that_changes_what_lies(self):
        text = "round; cast 1; a+1 times (2 times (row rest [kx2]); row rest [k4r]); row b"
        once = [(0, "kx2", False), (0, "kx2 kx2", False), (1, "k4r", False)]
        for a in range(4):
            self.is_told(text, [a, 0, 0, 0], once * (a + 1) + [(2, "b", False)])

    def test_a_sized_block_in_a_block_that_changes_what_lies(self):
        text = "round; cast b+1; 3 times (d+2 times (row rest [k]; row rest [p]); row rest [s], o); row rest [b]"
        for b, d in itertools.product(range(3), range(3)):
            rows = []
            for lies in (b + 1, b + 2, b + 3):
                rows += [(0, " ".join("k" * lies), False), (1, " ".join("p" * lies), False)] * (d + 2)
                rows.append((2, " ".join("s" * lies + "o"), False))
            self.is_told(text, [0, b, 0, d], rows + [(3, " ".join("b" * (b + 4)), False)])

    def test_keepers(self):
        self.is_told("flat; cast c+2; row [hw] c, rest [k]; row rest [p], [fw] c; row rest [hz]; row fz, fz, [fz] c; "
                     "row rest [b]", [0, 0, 2, 0], [
                         (0, "hw hw k k", False), (1, "p p fw fw", False), (2, "hz hz hz hz", False),
                         (3, "fz fz fz fz", False), (4, "b b b b", False)])

    def test_each_stitch(self):
        for mark in all_marks():
            takes, gives = one(mark)[1].takes(), one(mark)[1].gives()
            start, number = [], 0
            if mark[0] == "f":
                start, number = [("row", ones("o", "o"), False), ("row", ones("h" + mark[1]) * 2, False)], 2
            items = start + [("row", [("times", plain(2), [one(mark)])], False), ("row", [], False, ones("b"), [])]
            told = rows_at(Pattern("round", plain(takes * 2), items), NO_SIZE)
            self.assertEqual(marked(told[number:]), [
                (number, [mark] * 2, False), (number + 1, ["b"] * (gives * 2), False)])


class TestDrawn(Rows):
    def test_drawn_patterns(self):
        draw = random.Random(8)
        seen = {"told": 0, "refused": 0, "too many": 0}
        for seed in range(200):
            pattern = Drawn(seed).whole()
            for found in (pattern, read_or_none(changed_text(draw, shown(pattern)))):
                if found is not None:
                    for choice in CHOICES:
                        seen[self.check(found, choice)] += 1
        self.assertGreater(min(seen.values()), 100, seen)

    def check(self, pattern, choice):
        text, before = shown(pattern), list(choice)
        refused = refusal_of(look, pattern)
        if refused:
            self.assertEqual(refusal_of(rows_at, pattern, choice), refused, text)
            return "refused"
        rows, stitches = work_at(pattern, choice)
        if rows > 300 or stitches > 3000:
            with at_once(), self.assertRaises(TooMany, msg=text):
                rows_at(pattern, choice)
            return "too many"
        told = rows_at(pattern, choice)
        self.check_kinds(told)
        work = NumberWork(pattern, choice, really=True)
        self.assertIsNone(work.fault, text)
        self.assertEqual(marked(told), work.works, text)
        self.assertEqual((shown(pattern), choice), (text, before))
        self.assertEqual(marked(rows_at(pattern, choice)), work.works, text)
        return "told"


class TestRefused(Rows):
    def test_as_look_refuses(self):
        for text, refusal in (
            ("round; cast 1; row k; row [[k] a] b", NoSum),
            ("round; cast 1; 301 times (row k); row rest [o]", NoSum),
            ("round; cast 1; 301 times (row k)", TooMany),
            ("round; cast 2; 301 times (row k)", TooMany),
            ("round; cast 2; row k", Miscount),
            ("round; cast a; row rest [k]", Miscount),
            ("round; cast a+1; row hw, rest [k]; row rest [hw]", Miscount),
            ("round; cast 2; a+1 times (row rest [k], o); row rest [b]", Miscount),
        ):
            for choice in (NO_SIZE, [1, 2, 3, 4], [GREAT] * 4):
                with at_once():
                    found = refusal_of(rows_at, read(text), choice)
                self.assertIs(found[0], refusal, text)
                self.assertEqual(found, refusal_of(look, read(text)), text)

    def test_refused_though_it_goes_well_at_this_choice(self):
        with self.assertRaises(Miscount) as refusal:
            rows_at(read("round; cast a; row [k] b; row [b] a"), [3, 3, 0, 0])
        self.assertEqual(refusal.exception.row, 0)

    def test_looked_at_ahead_of_too_many(self):
        self.assertIs(refusal_of(rows_at, read("round; cast 1; a+400 times (row k)"), NO_SIZE)[0], Miscount)
        self.assertIs(refusal_of(rows_at, read("round; cast 9000; row rest [k]"), NO_SIZE)[0], Miscount)

    def test_rows(self):
        text = "round; cast 0; a+1 times (row rest [k])"
        self.fits(text, [299, 0, 0, 0], 300, 0)
        self.too_many(text, [300, 0, 0, 0])
        self.fits("round; cast 0; 300 times (row rest [k])", NO_SIZE, 300, 0)
        text = "round; cast 1; 3 times (row k; 2a+3b+1 times (row p; row k)); row b"
        self.fits(text, [8, 10, 0, 0], 286, 286)
        self.fits(text, [24, 0, 0, 0], 298, 298)
        self.too_many(text, [11, 9, 0, 0])
        text = "round; cast 1; row k; a+1 times (b+1 times (row k; row p)); row k; row b"
        self.fits(text, [0, 147, 0, 0], 299, 299)
        self.too_many(text, [0, 148, 0, 0])
        self.fits(text + "; row [k] 0", [0, 147, 0, 0], 300, 299)
        self.fits(text + "; row [k] 0", [147, 0, 0, 0], 300, 299)
        self.too_many(text + "; row [k] 0; row [k] 0", [147, 0, 0, 0])

    def test_stitches(self):
        for text in (
            "round; cast a; row [k] a; row [b] a",
            "round; cast a; row rest [k]; row rest [b]",
            "round; cast a; 1 times (row [[k] 1] a); row rest [b]",
            "flat; cast a; row [s] a turn; row rest [b]; row rest [b]",
        ):
            self.fits(text, [1500, 0, 0, 0], len(rows_at(read(text), NO_SIZE)), 3000)
            self.too_many(text, [1501, 0, 0, 0])
        self.fits("round; cast 3000; row rest [b]", NO_SIZE, 1, 3000)
        self.too_many("round; cast 3001; row rest [b]", NO_SIZE)
        self.fits("round; cast 10; 299 times (row rest [k]); row rest [b]", NO_SIZE, 300, 3000)
        self.too_many("round; cast 10; row rest [k], o; row k2r, rest [k]; 297 times (row rest [k]); row rest [b]",
                      NO_SIZE)
        self.fits("round; cast 10; 20a+10b+50 times (row [k] 10); row rest [b]", [7, 10, 0, 0], 291, 2910)
        text = "round; cast b; a+1 times (3 times (row rest [k]; row [s] b)); row rest [b]"
        self.fits(text, [8, 54, 0, 0], 55, 2970)
        self.fits(text, [4, 96, 0, 0], 31, 2976)
        self.too_many(text, [4, 97, 0, 0])
        self.too_many(text, [9, 54, 0, 0])

    def test_stitches_of_each_place_in_a_row(self):
        for row in ("[o] c, rest [k]", "rest [k], [o] c", "rest [k], [[o] 1] c", "[[o] c] 1, rest [k]"):
            text = f"round; cast 1; row {row}; row rest [hw]"
            self.fits(text, [0, 0, 1499, 0], 2, 3000)
            self.too_many(text, [0, 0, 1500, 0])

    def test_great_ones_at_once(self):
        vast = 10 ** 899
        with at_once():
            for choice in ([GREAT, 0, 0, 0], [GREAT] * 4, [vast, 0, 0, 0], [vast] * 4):
                self.too_many("round; cast a; row rest [b]", choice)
                self.too_many("round; cast 2a+7; row [k] a, rest [k], k; row [b] 2a+7", choice)
                self.too_many("round; cast 0; a+1 times (row [k] 0)", choice)
                self.too_many("round; cast 1; 2 times (a+1 times (b+1 times (row k))); row b", choice)
                self.too_many("flat; cast 3a; a+1 times (row [k] a turn; row rest [p]); row rest [b]", choice)
                self.too_many("round; cast 0; row [[[o] 999999999999999999] a] 7; row rest [hw]", choice)
                self.fits("round; cast 0; row [[k] a] 0, [[[p] 0] a] 999999999999999999; row rest [k]", choice, 2, 0)
            self.too_many(f"round; cast {GREAT}; row [hw] {GREAT}", NO_SIZE)
            self.too_many(f"round; cast 0; {GREAT}a+{GREAT} times (row rest [k])", NO_SIZE)
            self.too_many(f"round; cast 1; {GREAT}a+{GREAT} times ({GREAT}a+{GREAT} times (row k)); row b", NO_SIZE)
            with self.assertRaises(TooMany):
                rows_at(Pattern("flat", plain(vast), [("row", [], False, ones("b"), [])]), NO_SIZE)


class TestUnrolled(Rows):
    def is_unrolled(self, parts, choice, marks):
        told = unrolled(parts, choice)
        self.assertIs(type(told), list)
        self.assertEqual(marked(told), marks)

    def test_by_hand(self):
        self.is_unrolled([], NO_SIZE, [])
        self.is_unrolled(ones("k", "p", "k"), [9, 9, 9, 9], ["k", "p", "k"])
        self.is_unrolled(parts_of("[k, p] 2"), NO_SIZE, ["k", "p", "k", "p"])
        self.is_unrolled(parts_of("[k] 0, [p] 1, s"), NO_SIZE, ["p", "s"])
        self.is_unrolled(parts_of("[k] a+1, [p] 2b, [s] c+d"), [1, 2, 0, 1], ["k", "k", "p", "p", "p", "p", "s"])
        self.is_unrolled(parts_of("[k, [p, [o] b] 2, k2r] a"), [2, 1, 0, 0], ["k", "p", "o", "p", "o", "k2r"] * 2)
        # No sum is needed of these, so sizes may be multiplied.
        self.is_unrolled(parts_of("[[k] a] a"), [3, 0, 0, 0], ["k"] * 9)

    def test_each_stitch(self):
        for choice in (NO_SIZE, [2, 0, 1, 0]):
            self.is_unrolled(ones(*all_marks()), choice, all_marks())
            self.is_unrolled([("times", (1, 1, 0, 0, 0), ones(*all_marks()))], choice, all_marks() * (choice[0] + 1))

    def test_eight_deep(self):
        parts = ones("k", "hw")
        for deep in range(8):
            parts = [("times", plain(2), parts), one("p")]
        marks = ["k", "hw"]
        for deep in range(8):
            marks = marks * 2 + ["p"]
        self.is_unrolled(parts, NO_SIZE, marks)
        sums = [plain(1), A, (0, 0, 1, 0, 0), plain(3), (1, 0, 0, 1, 0), plain(1), (0, 0, 0, 0, 2), plain(2)]
        parts, marks = ones("s", "o"), ["s", "o"]
        for often in sums:
            parts, marks = [one("k"), ("times", often, parts)], ["k"] + marks * number_of(often, [2, 3, 1, 1])
        self.is_unrolled(parts, [2, 3, 1, 1], marks)
        self.is_unrolled(parts, NO_SIZE, marks_of(parts, NO_SIZE))

    def test_sums_that_are_worth_0(self):
        great = (10 ** 900, 0, 10 ** 18, 0, 0)
        for place in range(8):
            for nothing in (NOUGHT, A, (0, 7, 0, 0, 10 ** 18)):
                parts = ones("k", "p")
                for deep in range(8):
                    parts = [("times", nothing if deep == place else great, parts)]
                with at_once():
                    self.is_unrolled(ones("s") + parts + ones("o"), [0, 9, 9, 0], ["s", "o"])
                    self.is_unrolled([("times", plain(2), ones("s") + parts)], [0, 1, 0, 0], ["s", "s"])

    def test_just_3000(self):
        self.is_unrolled(parts_of("[[k, p] 3] 5a"), [100, 0, 0, 0], ["k", "p"] * 1500)
        self.is_unrolled(ones("k") * 3000, NO_SIZE, ["k"] * 3000)

    def test_drawn_parts(self):
        draw = random.Random(4)
        for turn in range(300):
            parts = self.drawn_parts(draw, 4)
            choice = [draw.randrange(3) for size in "abcd"]
            if len(marks_of(parts, choice)) <= 3000:
                self.is_unrolled(parts, choice, marks_of(parts, choice))

    def drawn_parts(self, draw, deep):
        parts = []
        for turn in range(draw.randrange(1, 4)):
            if deep == 0 or draw.randrange(2):
                parts.append(one(draw.choice(all_marks())))
            else:
                often = draw.choice((NOUGHT, plain(1), plain(2), A, (0, 0, 1, 1, 0), (1, 0, 0, 0, 2)))
                parts.append(("times", often, self.drawn_parts(draw, deep - 1)))
        return parts


class TestNothingChanges(Rows):
    def test_parts_and_choice_stay(self):
        parts, choice = parts_of("k, [p, [s] a] 2, [o] b+1"), [2, 0, 1, 5]
        before = copy.deepcopy(parts)
        told = unrolled(parts, choice)
        marks = marked(told)
        told.append(Plain(1))
        told[0] = None
        self.assertEqual((marked(parts), choice), (marked(before), [2, 0, 1, 5]))
        self.assertEqual(marked(unrolled(parts, choice)), marks)
        for alone in (ones("k", "p"), [], parts_of("[k, p] 1")):
            marks = marked(unrolled(alone, choice))
            unrolled(alone, choice).clear()
            unrolled(alone, choice).append(Plain(-1))
            self.assertEqual(marked(unrolled(alone, choice)), marks)

    def test_told_rows_are_new_lists(self):
        pattern = read("flat; cast a+2; a+1 times (row rest [k]; 2 times (row k, p, rest [s])); row b, [b] a+1")
        choice = [2, 0, 0, 0]
        told, text = rows_at(pattern, choice), shown(pattern)
        before = marked(told)
        for place, row in enumerate(told):
            row[1].append(Plain(place % 2 or -1))
            row[1].reverse()
            for other, marks in list(zip(told, before))[place + 1:]:
                self.assertEqual(marked(other), marks)
        told.clear()
        self.assertEqual(marked(rows_at(pattern, choice)), before)
        self.assertEqual((shown(pattern), choice), (text, [2, 0, 0, 0]))

    def test_told_rows_are_not_the_pattern_s_lists(self):
        pattern = read("round; cast 3; row k, k, k; row b, b, b")
        for number, stitches, turn in rows_at(pattern, NO_SIZE):
            stitches.clear()
        self.assertEqual(shown(pattern), "round; cast 3; row k, k, k; row b, b, b")

    def test_the_choice_may_be_changed_behind(self):
        pattern, choice = read("round; cast a; row rest [b]"), [2, 0, 0, 0]
        told = rows_at(pattern, choice)
        choice[0] = 5
        self.assertEqual(marked(told), [(0, ["b", "b"], False)])
        self.assertEqual(marked(rows_at(pattern, choice)), [(0, ["b"] * 5, False)])


if __name__ == "__main__":
    unittest.main()
