"""Patterns looked at: promises [2], [3], [13], [14], [15] and [16]."""

import copy
import random
import unittest

from stitchroom.errors import Miscount, NoSum, TooMany
from stitchroom.looker import look
from stitchroom.patterns import Pattern
from stitchroom.reader import read
from stitchroom.sums import sum_text
from stitchroom.writer import shown
from tests.helper import (
    NOUGHT, Curved, Drawn, NumberWork, at_once, changed_text, marked, number_of, ones, plain, polynomials,
    read_or_none, sum_of_polynomial,
)

A = (0, 1, 0, 0, 0)
CHOICES = [
    [0, 0, 0, 0], [1, 0, 0, 0], [0, 1, 0, 0], [0, 0, 1, 0], [0, 0, 0, 1], [1, 1, 1, 1], [2, 3, 0, 1], [5, 0, 4, 7],
    [10 ** 18, 3, 10 ** 17 + 1, 0], [10 ** 40, 10 ** 41 + 7, 10 ** 30, 10 ** 50 + 3],
]
PLACES = ["needle", "w", "x", "y", "z"]


def rows_of(items):
    return [row for item in items for row in ([item] if item[0] == "row" else rows_of(item[2]))]


def walked(items):
    """How many rows are walked, by point 15."""
    return sum(
        1 if item[0] == "row" else walked(item[2]) * (1 if any(item[1][1:]) else item[1][0]) for item in items
    )


def is_summed(row):
    """Whether a row is let by by points 12 and 13."""
    try:
        polynomials(row[1])
        if len(row) == 3:
            return True
        polynomials(row[4])
        rest = {what: sum_of_polynomial(count) for what, count in polynomials(row[3]).items()}
    except Curved:
        return False
    return rest["takes"][0] > 0 and not any(any(each[1:]) for each in rest.values())


def told_of(pattern):
    """What look answers, in a form that can be compared."""
    try:
        return ("told", look(pattern))
    except NoSum as refusal:
        return ("NoSum", refusal.row)
    except TooMany:
        return ("TooMany",)
    except Miscount as refusal:
        return ("Miscount", refusal.row, refusal.place, refusal.choice, refusal.lies, refusal.asked)


def how_far(work):
    """How far a work by numbers got: the rows that went well, and what went well behind them."""
    place = work.fault[1]
    return (len(work.told), PLACES.index(place) if place in PLACES else {"block": -1, "end": 9}[place])


class Looking(unittest.TestCase):
    def check(self, pattern):
        """Holds what look answers against points 12 to 16; tells how it was answered."""
        text = shown(pattern)
        told = told_of(pattern)
        self.assertEqual(shown(pattern), text)
        self.assertEqual(told_of(pattern), told, text)
        unsummed = [number for number, row in enumerate(rows_of(pattern.things)) if not is_summed(row)]
        if unsummed:
            self.assertEqual(told, ("NoSum", unsummed[0]), text)
        elif walked(pattern.things) > 300:
            self.assertEqual(told, ("TooMany",), text)
        elif told[0] == "told":
            self.check_let_by(pattern, told[1], text)
        else:
            self.assertEqual(told[0], "Miscount", text)
            self.check_refused(pattern, told, text)
            return told[2]
        return told[0]

    def check_let_by(self, pattern, told, text):
        self.assertIs(type(told), list)
        for step in told:
            self.assertIs(type(step), tuple)
            self.assertEqual([type(each) for each in step], [int, tuple, tuple])
            self.assertEqual([type(number) for each in step[1:] for number in each], [int] * 10)
        for choice in CHOICES:
            work = NumberWork(pattern, choice)
            self.assertIsNone(work.fault, (text, choice))
            numbers = [(row, number_of(hand, choice), number_of(other, choice)) for row, hand, other in told]
            self.assertEqual(work.told, numbers, (text, choice))

    def check_refused(self, pattern, told, text):
        choice = told[3]
        self.assertIs(type(choice), list)
        self.assertEqual([type(number) for number in choice + [told[1], told[4], told[5]]], [int] * 7, text)
        self.assertGreaterEqual(min(choice), 0)
        work = NumberWork(pattern, choice)
        self.assertEqual(work.fault, (told[1], told[2], told[4], told[5]), (text, choice))
        for other in CHOICES:
            if NumberWork(pattern, other).fault:
                self.assertGreaterEqual(how_far(NumberWork(pattern, other)), how_far(work), (text, other))

    def is_told(self, text, steps):
        """The text is let by, and these are told: the number and both sums of each row walked."""
        self.assertEqual(look(read(text)), steps, text)
        self.assertEqual(self.check(read(text)), "told")

    def miscount(self, text, row, place, lies=None, asked=None):
        with self.assertRaises(Miscount, msg=text) as refusal:
            look(read(text))
        self.assertEqual((refusal.exception.row, refusal.exception.place), (row, place), text)
        if lies is not None:
            self.assertEqual((refusal.exception.lies, refusal.exception.asked), (lies, asked), text)
        self.assertEqual(self.check(read(text)), place, text)

    def refused(self, refusal, text):
        with self.assertRaises(refusal, msg=text) as found:
            look(read(text))
        self.check(read(text))
        return found.exception


class TestLetBy(Looking):
    def test_the_pattern_of_the_document(self):
        steps = [(0, (3, 2, 0, 0, 0), NOUGHT)]
        for turn in range(3):
            steps += [(1, (2, 2, 0, 0, 0), NOUGHT), (2, (2, 2, 0, 0, 0), NOUGHT), (3, plain(1), (1, 2, 0, 0, 0))]
        self.is_told(
            "flat; cast 2a+3; row k, [p, k] a, k2r; 3 times (row rest [k]; row p turn; row k); "
            "a+1 times (row p, rest [p], s); row rest [b]",
            steps + [(4, (2, 2, 0, 0, 0), NOUGHT), (5, (2, 2, 0, 0, 0), NOUGHT)])

    def test_short_rows(self):
        self.is_told("round; cast 3; row k, o, k2r; row b, b, b", [(0, plain(3), NOUGHT), (1, plain(3), NOUGHT)])
        self.is_told("round; cast a; row [kx2] a; row [b] 2a", [(0, A, NOUGHT), (1, (0, 2, 0, 0, 0), NOUGHT)])
        self.is_told("flat; cast a; row [kx2] a; row [b] 2a", [(0, A, NOUGHT), (1, (0, 2, 0, 0, 0), NOUGHT)])
        self.is_told("flat; cast 0; row [k] 0; row o; row b", [
            (0, NOUGHT, NOUGHT), (1, NOUGHT, NOUGHT), (2, plain(1), NOUGHT)])
        self.is_told("round; cast 0; row [k] 0", [(0, NOUGHT, NOUGHT)])

    def test_rests(self):
        for many, rest in ((1, "b"), (2, "b, b"), (3, "b, [b] 2")):
            for more in range(4):
                cast = (many * 5 + more, 2 * many, 0, many, 0)
                for row in (f"rest [{rest}], [b] {more}", f"[b] {more}, rest [{rest}]"):
                    self.is_told(f"round; cast {sum_text(cast)}; row {row}", [(0, cast, NOUGHT)])
        self.is_told("round; cast 4; row k, k, rest [k2r], k, b; row rest [k], b, b, b", [
            (0, plain(4), NOUGHT), (1, plain(3), NOUGHT)])
        self.is_told("round; cast 6a+4; row k, rest [k, k2r], [kx2] 3a, s, k, p; row rest [b]", [
            (0, (4, 6, 0, 0, 0), NOUGHT), (1, (4, 8, 0, 0, 0), NOUGHT)])
        self.is_told("flat; cast 0; row rest [k]; row rest [k3r]", [(0, NOUGHT, NOUGHT), (1, NOUGHT, NOUGHT)])

    def test_what_a_rest_may_have(self):
        self.is_told("round; cast 2a; row rest [k, b, [[o] 0] a, [[hw] d] 0]; row rest [b]", [
            (0, (0, 2, 0, 0, 0), NOUGHT), (1, A, NOUGHT)])

    def test_early_turns(self):
        self.is_told("flat; cast 5; row k, k turn; row rest [p]; row rest [b]", [
            (0, plain(5), NOUGHT), (1, plain(2), plain(3)), (2, plain(5), NOUGHT)])
        # What lies on the other needle is taken with what is given, in the row behind.
        self.is_told("flat; cast 5; row k, k turn; row p turn; row rest [k]; row rest [b]; row rest [b]", [
            (0, plain(5), NOUGHT), (1, plain(2), plain(3)), (2, plain(4), plain(1)), (3, plain(5), NOUGHT),
            (4, NOUGHT, NOUGHT)])
        self.is_told("flat; cast 3; row o turn; row b; row rest [b]", [
            (0, plain(3), NOUGHT), (1, plain(1), plain(3)), (2, plain(3), NOUGHT)])
        self.is_told("flat; cast 2a+1; row b, [b] 2a turn", [(0, (1, 2, 0, 0, 0), NOUGHT)])
        self.is_told("flat; cast 2a+b; row [k] a turn; row [k] a; row rest [b]", [
            (0, (0, 2, 1, 0, 0), NOUGHT), (1, A, (0, 1, 1, 0, 0)), (2, (0, 2, 1, 0, 0), NOUGHT)])
        self.is_told("flat; cast 1; row [k] 0 turn; row [p] 0; row b", [
            (0, plain(1), NOUGHT), (1, NOUGHT, plain(1)), (2, plain(1), NOUGHT)])

    def test_keepers(self):
        self.is_told("round; cast a+2; row [hw] a, hx, k; row k, fx; row k, k, [fw] a; row rest [b]", [
            (0, (2, 1, 0, 0, 0), NOUGHT), (1, plain(1), NOUGHT), (2, plain(2), NOUGHT), (3, (2, 1, 0, 0, 0), NOUGHT)])
        # What is put on a keeper in the row that fetches from it is there for a later one.
        self.is_told("flat; cast 2; row hz, k; row hz, fz; row b, fz; row b", [
            (0, plain(2), NOUGHT), (1, plain(1), NOUGHT), (2, plain(1), NOUGHT), (3, plain(1), NOUGHT)])
        # Loops may stay on a keeper to the end.
        self.is_told("round; cast 2c; row [hy] 2c", [(0, (0, 0, 0, 2, 0), NOUGHT)])
        self.is_told("round; cast 3; row rest [hy]; row fy, fy, fy; row rest [b]", [
            (0, plain(3), NOUGHT), (1, NOUGHT, NOUGHT), (2, plain(3), NOUGHT)])
        # A rest that is worked no time names no keeper.
        self.is_told("round; cast 2; row hw, hw; row rest [hw]; row rest [k, fw]; row fw, fw; row b, b", [
            (0, plain(2), NOUGHT), (1, NOUGHT, NOUGHT), (2, NOUGHT, NOUGHT), (3, NOUGHT, NOUGHT),
            (4, plain(2), NOUGHT)])
        # Nor does a part that is worked no time.
        self.is_told("round; cast 1; row hw; row [hw, fw] 0; row fw; row b", [
            (0, plain(1), NOUGHT), (1, NOUGHT, NOUGHT), (2, NOUGHT, NOUGHT), (3, plain(1), NOUGHT)])

    def test_all_keepers_in_a_row(self):
        self.is_told("flat; cast 4; row hw, hx, hy, hz; row [fw, fx, fy, fz] 1; row rest [b]", [
            (0, plain(4), NOUGHT), (1, NOUGHT, NOUGHT), (2, plain(4), NOUGHT)])
        self.is_told("flat; cast a+b; row [hw] a, [hz] b; row [fz] b, [fw] a; row rest [b]", [
            (0, (0, 1, 1, 0, 0), NOUGHT), (1, NOUGHT, NOUGHT), (2, (0, 1, 1, 0, 0), NOUGHT)])

    def test_blocks_that_are_not_sized(self):
        self.is_told("round; cast 1; 3 times (row rest [kx2]); row rest [b]", [
            (0, plain(1), NOUGHT), (0, plain(2), NOUGHT), (0, plain(4), NOUGHT), (1, plain(8), NOUGHT)])
        self.is_told("flat; cast 1; 2 times (1 times (row rest [k], o); 2 times (row rest [k], b; row rest [s], o)); "
                     "row rest [b]", [
                         (0, plain(1), NOUGHT), (1, plain(2), NOUGHT), (2, plain(1), NOUGHT), (1, plain(2), NOUGHT),
                         (2, plain(1), NOUGHT), (0, plain(2), NOUGHT), (1, plain(3), NOUGHT), (2, plain(2), NOUGHT),
                         (1, plain(3), NOUGHT), (2, plain(2), NOUGHT), (3, plain(3), NOUGHT)])

    def test_blocks_that_are_sized(self):
        self.is_told("round; cast b; a+1 times (row rest [kx2]; row rest [k2r]); row rest [b]", [
            (0, (0, 0, 1, 0, 0), NOUGHT), (1, (0, 0, 2, 0, 0), NOUGHT), (2, (0, 0, 1, 0, 0), NOUGHT)])
        self.is_told("round; cast 1; d+999999 times (c+1 times (row hw; row fw)); row b", [
            (0, plain(1), NOUGHT), (1, NOUGHT, NOUGHT), (2, plain(1), NOUGHT)])
        # Loops that lie on the other needle, or on keepers, may lie there all the while.
        self.is_told("flat; cast 6; row k, k, hw turn; a+1 times (row p turn; row k turn); row p, p; row rest [b], fw; "
                     "row b", [
                         (0, plain(6), NOUGHT), (1, plain(2), plain(3)), (2, plain(4), plain(1)),
                         (3, plain(2), plain(3)), (4, plain(5), NOUGHT), (5, plain(1), NOUGHT)])

    def test_a_block_is_sized_by_any_size(self):
        for often in ("a+1", "b+1", "c+1", "d+1", "2a+3b+7"):
            self.is_told(f"round; cast 2; {often} times (row k, k); row b, b", [
                (0, plain(2), NOUGHT), (1, plain(2), NOUGHT)])

    def test_great_numbers(self):
        great = 10 ** 18 - 1
        self.is_told(f"round; cast {great}a+{great}; row rest [k, k, k]; row [b] {great}a+{great}", [
            (0, (great, great, 0, 0, 0), NOUGHT), (1, (great, great, 0, 0, 0), NOUGHT)])
        self.is_told(f"round; cast {great}d; row [[kx2] {great}d] 1; row [[[b] 2] 1] {great}d", [
            (0, (0, 0, 0, 0, great), NOUGHT), (1, (0, 0, 0, 0, 2 * great), NOUGHT)])


class TestMiscount(Looking):
    def test_needle_of_short_rows(self):
        self.miscount("round; cast 3; row k, k", 0, "needle", 3, 2)
        self.miscount("round; cast 3; row k, k, k, k", 0, "needle", 3, 4)
        self.miscount("flat; cast 3; row [k] 3; row [k] 2", 1, "needle", 3, 2)
        self.miscount("flat; cast a; row k; row b", 0, "needle")
        self.miscount("flat; cast a; row [k] b; row rest [b]", 0, "needle")
        self.miscount("flat; cast a+1; row [k] 2a+1; row rest [b]", 0, "needle")
        self.miscount("round; cast 0; row [k] 0; row k", 1, "needle", 0, 1)
        self.miscount("round; cast 0; row [b] d", 0, "needle")

    def test_needle_of_early_turns(self):
        self.miscount("flat; cast 3; row k, k, k, k turn", 0, "needle", 3, 4)
        self.miscount("flat; cast 100; row [k] a turn", 0, "needle")
        self.miscount("flat; cast 2a+100; row [k] 3a turn", 0, "needle")
        self.miscount("flat; cast 999999999999999999; row [k] d turn", 0, "needle")
        # Behind an early turn the row takes what was given alone.
        self.miscount("flat; cast 3; row k turn; row [k] 3", 1, "needle", 1, 3)

    def test_needle_of_rests(self):
        self.miscount("round; cast 5; row rest [k2r]", 0, "needle", 5, 0)
        self.miscount("round; cast 5; row k, k, k, rest [k], k, k, k", 0, "needle", 5, 6)
        self.miscount("round; cast 7; row k, rest [k3r], [k] 2", 0, "needle", 7, 3)
        self.miscount("round; cast 2; row k, rest [k, k], k, k", 0, "needle", 2, 3)
        self.miscount("round; cast 3a+6; row rest [k2r]; row rest [b]", 0, "needle")
        self.miscount("round; cast 3a+6; row [k] 3b, rest [k3r]; row rest [b]", 0, "needle")
        self.miscount("round; cast 900a+600; row [k] 300b, rest [k3r], [k] 300; row rest [b]", 0, "needle")

    def test_keepers(self):
        self.miscount("round; cast 1; row hw; row fx", 1, "x", 0, 1)
        self.miscount("round; cast 2; row hw, hw; row fw", 1, "w", 2, 1)
        self.miscount("round; cast 2; row hw, k; row hw", 1, "w", 1, 0)
        self.miscount("round; cast 2; row hz, hz; row [fz] 3", 1, "z", 2, 3)
        self.miscount("round; cast a; row [hy] a; row [fy] 2a; row rest [b]", 1, "y")
        self.miscount("round; cast 1; row hw, fw; row b", 0, "w", 0, 1)
        self.miscount("round; cast 3; row hw, k, k; row rest [hw]", 1, "w", 1, 0)
        self.miscount("round; cast 3; row hw, k, k; row rest [k, fw]; row rest [b]", 1, "w", 1, 2)
        # What was put on a keeper is not there once it was fetched.
        self.miscount("round; cast 1; row hw; row fw; row k, fw; row rest [b]", 2, "w", 0, 1)

    def test_where_a_size_of_0_lets_a_row_name_no_keeper(self):
        self.miscount("round; cast a+1; row hw, rest [k]; row rest [k], [fw] a; row rest [b]", 1, "w")
        self.miscount("round; cast a+1; row hw, rest [k]; row rest [hw]", 1, "w")
        self.miscount("round; cast 2a+3; row [hx] 3, rest [k]; row [k] a, [hx] a; row rest [b]", 1, "x")
        self.miscount("flat; cast b+2; row hy, hy, rest [k]; row [fy] c, rest [k]; row rest [b]", 1, "y")
        self.miscount("flat; cast a+b+2; row hz, [hz] a, rest [k]; row [fz] b, [hz] b, rest [k]", 1, "z")
        self.miscount("flat; cast a+b+2; row hz, [hz] a, rest [k]; row [fz, hz] b, rest [k]; row rest [b]", 1, "z")

    def test_needle_ahead_of_the_keepers_and_these_in_order(self):
        self.miscount("round; cast 2; row fw, fx, k", 0, "needle", 2, 1)
        self.miscount("round; cast 1; row fz, fy, fx, fw, k", 0, "w", 0, 1)
        self.miscount("round; cast 1; row [fz] 4, [fy] 3, [fx] 2, k", 0, "x", 0, 2)
        self.miscount("round; cast 1; row [fz] 4, [fy] 3, k", 0, "y", 0, 3)
        self.miscount("round; cast 1; row [fz] 4, k", 0, "z", 0, 4)
        self.miscount("round; cast 3; row hz, hx, k; row hx, hz, fz", 1, "needle", 1, 2)
        self.miscount("round; cast 4; row hz, hx, k, k; row hx, hz, fz", 1, "x", 1, 0)

    def test_behind_a_block(self):
        self.miscount("round; cast 3; a+1 times (row rest [kx2]); row rest [b]", 0, "block", 6, 3)
        self.miscount("round; cast 3; row rest [k]; a+1 times (row rest [k]; row b, rest [k]); row rest [b]",
                      1, "block", 2, 3)
        self.miscount("round; cast b+1; a+1 times (row rest [k], [o] c); row rest [b]", 0, "block")
        self.miscount("flat; cast 4; row k, k turn; a+1 times (row p, p); row rest [b]", 1, "block", 4, 2)
        # The other needle, where the one in hand is as it was.
        self.miscount("flat; cast 4; row k, k turn; a+1 times (row p turn; row k2r turn); row rest [b]; row rest [b]",
                      1, "block", 1, 2)

    def test_keepers_behind_a_block(self):
        self.miscount("round; cast 2; row hw, hw; d+2 times (row fw, fw; row hw, b); row rest [k]", 1, "block", 1, 2)
        self.miscount("round; cast c; row [hy] c; d+2 times (row [fy] c; row rest [b]); row rest [k]", 1, "block")
        puts = ["[hw] 2", "[hx] 3", "[hy] 4", "[hz] 5"]
        for first in range(4):
            row = ", ".join(reversed(puts[first:]))
            self.miscount(f"round; cast 0; b+1 times (row [o] {sum(range(first + 2, 6))}; row {row}); row rest [k]",
                          0, "block", first + 2, 0)
            self.miscount(f"round; cast 0; b+1 times (row [o] {sum(range(first + 2, 6)) + 9}; row {row}, rest [k])",
                          0, "block", 9, 0)

    def test_behind_a_block_within_a_block(self):
        self.miscount("round; cast 3; row rest [k]; a+1 times (row rest [k]; 2 times (b+1 times (row k, rest [k], o)))",
                      2, "block", 4, 3)
        self.miscount("round; cast 3; a+1 times (2 times (b+1 times (row rest [k]); row b, rest [k]))",
                      0, "block", 1, 3)
        self.miscount("round; cast 3; a+1 times (b+1 times (c+1 times (row rest [k]; row rest [k], o)))",
                      0, "block", 4, 3)

    def test_nothing_is_asked_behind_a_block_that_is_not_sized(self):
        self.is_told("round; cast 1; 1 times (row kx2); row b, b", [(0, plain(1), NOUGHT), (1, plain(2), NOUGHT)])

    def test_at_the_end(self):
        self.miscount("round; cast 3; row rest [k]", 1, "end", 3, 0)
        self.miscount("flat; cast 3; row k turn", 1, "end", 3, 0)
        self.miscount("flat; cast 5; row k, b turn; row b", 2, "end", 3, 0)
        self.miscount("flat; cast 5; row k, b turn; row b turn; row b turn", 3, "end", 2, 0)
        self.miscount("round; cast a; row rest [k]", 1, "end")
        self.miscount("flat; cast 4; 3 times (row rest [k]; 2 times (row rest [p]; row rest [k]))", 3, "end", 4, 0)
        self.miscount("round; cast 1; row hw; row fw", 2, "end", 1, 0)

    def test_great_numbers(self):
        great = 10 ** 18 - 1
        self.miscount(f"round; cast {great}; row [k] {great - 1}", 0, "needle", great, great - 1)
        self.miscount(f"flat; cast {great}; row [k] a turn", 0, "needle")
        self.miscount(f"round; cast {great}a+{great}; row [k] {great - 1}a, rest [k2r], [k] {great}", 0, "needle")
        self.miscount(f"round; cast {great}a+{great}; row [hw] {great}a+{great}; row [fw] {great}d", 1, "w")

    def test_the_fields_are_the_asker_s(self):
        pattern = read("round; cast a; row [k] b; row rest [b]")
        first = self.refused(Miscount, shown(pattern))
        before = list(first.choice)
        first.choice.append(7)
        first.lies = "changed"
        with self.assertRaises(Miscount) as again:
            look(pattern)
        self.assertEqual(again.exception.choice, before)
        self.assertIs(type(again.exception.lies), int)


class TestNoSum(Looking):
    def no_sum(self, text, row):
        self.assertEqual(self.refused(NoSum, text).row, row, text)

    def test_products(self):
        self.no_sum("round; cast 1; row [[k] a] b", 0)
        self.no_sum("round; cast 1; row k; row [[[k] a] b] 0", 1)
        self.no_sum("round; cast 1; row [k, [o] a] a+1", 0)
        self.no_sum("round; cast 1; row [[k] a] b, rest [k]", 0)
        self.no_sum("round; cast 1; row rest [k], [[fw] c] c", 0)
        self.no_sum("round; cast 1; row rest [k, [[[fw] c] c] 0]", 0)

    def test_rests(self):
        for rest in ("[k] a", "k, [k] a", "k, [o] b", "k, [fw] c", "k, [fx] c", "k, [fy] c", "k, [fz] c", "[b] a+1",
                     "o", "[k] 0", "fw, o", "[[k] a] 0", "k, [hz] d", "k, [hw] d", "k, [[o] a] 2"):
            self.no_sum(f"round; cast 1; row rest [{rest}]", 0)
            self.no_sum(f"round; cast 1; row k, rest [{rest}], [k] a", 0)
            self.no_sum(f"round; cast 1; row k; 2 times (row b; a+1 times (row o; row rest [{rest}]))", 3)

    def test_the_first_such_row(self):
        self.no_sum("round; cast 1; row k; row [[k] a] a; row rest [o]", 1)
        self.no_sum("round; cast 1; row k; row rest [o]; row [[k] a] a", 1)
        self.no_sum("round; cast 1; 2 times (row k; 3 times (row k; row k)); 1 times (row k; row rest [o]); "
                    "row rest [o]", 4)

    def test_ahead_of_too_many_and_of_miscount(self):
        self.no_sum("round; cast 1; 301 times (row k); row rest [o]", 1)
        self.no_sum("round; cast 1; row k, k; 301 times (row [[k] a] b)", 1)
        self.no_sum("round; cast 2; row k; row rest [[k] a]", 1)
        self.no_sum("round; cast 999999999999999999; 999999999999999999 times (row k; row [[k] a] b)", 1)


class TestTooMany(Looking):
    def test_just_300_rows(self):
        for text in (
            "round; cast 2; 299 times (row k, k); row b, b",
            "round; cast 2; row k, k; 2 times (149 times (row k, k)); row b, b",
            "round; cast 2; 12 times (row k, k; 2 times (row k, k; 5 times (row k, k; row s, s))); row k, k; "
            "22 times (row k, k); row b, b",
            "round; cast 2; 298 times (row k, k); 999999999999999999a+999999999999999999 times (row k, k); row b, b",
            "round; cast 2; a+300 times (99 times (row k, k; a+400 times (row p, p); row k, k)); row k, k; row p, p; "
            "row b, b",
        ):
            self.assertEqual(self.check(read(text)), "told")
            self.assertEqual(len(look(read(text))), 300)
            self.refused(TooMany, text.replace("; row b, b", "; row k, k; row b, b"))
            self.refused(TooMany, text + "; row rest [k]")

    def test_plain_blocks(self):
        self.assertEqual(len(look(read("round; cast 0; 300 times (row rest [k])"))), 300)
        self.refused(TooMany, "round; cast 0; 301 times (row rest [k])")
        self.refused(TooMany, "round; cast 0; 17 times (18 times (row rest [k]))")
        self.refused(TooMany, "round; cast 0; 151 times (row rest [k]; row rest [k])")

    def test_at_once(self):
        great = "999999999999999999"
        text = "row k"
        with at_once():
            for deep in range(8):
                text = f"{great} times ({text})"
                self.refused(TooMany, "round; cast 1; " + text)
                self.refused(TooMany, "round; cast 7; row k; " + text)
            self.refused(TooMany, f"flat; cast 0; a+1 times ({great} times (b+1 times (row rest [k])))")
            vast = ("block", plain(10 ** 899), [("row", ones("k"), False)])
            with self.assertRaises(TooMany):
                look(Pattern("round", plain(1), [("block", plain(10 ** 899), [vast])]))

    def test_sized_blocks_are_walked_once(self):
        text = "row k"
        with at_once():
            for deep in range(8):
                text = f"999999999999999999a+999999999999999999 times ({text})"
                self.is_told(f"round; cast 1; {text}; row b", [(0, plain(1), NOUGHT), (1, plain(1), NOUGHT)])

    def test_ahead_of_miscount(self):
        self.refused(TooMany, "round; cast 3; row k; 300 times (row k)")
        self.refused(TooMany, "round; cast 3; 301 times (row k, k)")
        self.refused(TooMany, "flat; cast 3; row fw; 999999999999999999 times (row rest [k])")


class TestDrawn(Looking):
    def test_drawn_patterns(self):
        draw = random.Random(3)
        seen = {}
        for seed in range(500):
            pattern = Drawn(seed).whole()
            texts = [shown(pattern)]
            for turn in range(4):
                texts.append(changed_text(draw, texts[draw.randrange(len(texts))]))
            for found in [pattern] + [read_or_none(text) for text in texts[1:]]:
                if found is not None:
                    told = self.check(found)
                    seen[told] = seen.get(told, 0) + 1
        for told in ("told", "needle", "w", "x", "y", "z", "block", "end", "NoSum"):
            self.assertGreater(seen.get(told, 0), 10, seen)
        self.assertGreater(seen["told"], 400, seen)

    def test_a_pattern_let_by_has_what_the_drawing_means_to_try(self):
        texts = [shown(pattern) for pattern in (Drawn(seed).whole() for seed in range(500)) if self.lets(pattern)]
        for form in ("flat", "round", "turn", " times (", "+1 times (", "rest [h", "[fw]", "rest [k, ", "[k3r, o, o]"):
            self.assertGreater(sum(form in text for text in texts), 10, form)

    def lets(self, pattern):
        return told_of(pattern)[0] == "told"


class TestNothingChanges(Looking):
    def test_told_lists_are_new_ones(self):
        pattern = read("flat; cast a+2; row k, k, [k] a; 2 times (row hw, rest [k]; row rest [k], fw); row rest [b]")
        told = look(pattern)
        before = copy.deepcopy(told)
        told.clear()
        self.assertEqual(look(pattern), before)
        look(pattern).append(1)
        self.assertEqual(look(pattern), before)

    def test_the_pattern_stays(self):
        items = [("row", ones("k"), False, ones("hw"), ones("o")), ("block", (1, 1, 0, 0, 0), [
            ("row", [("times", plain(2), ones("k"))], False)]), ("row", [], False, ones("b"), [])]
        before = marked(copy.deepcopy(items))
        pattern = Pattern("flat", (1, 1, 0, 0, 0), items)
        self.assertEqual(look(pattern), [
            (0, (1, 1, 0, 0, 0), NOUGHT), (1, plain(2), NOUGHT), (2, plain(2), NOUGHT)])
        self.assertEqual(marked(items), before)
        self.assertEqual(marked(pattern.things), before)
        self.assertEqual((pattern.way, pattern.cast), ("flat", (1, 1, 0, 0, 0)))

    def test_another_pattern_looked_at_in_between(self):
        first, second = read("round; cast 1; row hw; row fw; row b"), read("round; cast 2; row hw, hw; row fw")
        before = look(first)
        told_of(second)
        self.assertEqual(look(first), before)


if __name__ == "__main__":
    unittest.main()
