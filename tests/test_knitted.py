"""The cloths of patterns: promises [2], [3] and [18] to [20]."""

import collections
import random
import unittest

from stitchroom.errors import Miscount, NoSum, TooMany
from stitchroom.looker import look
from stitchroom.needles import Needles, knitted
from stitchroom.reader import read
from stitchroom.rows import rows_at
from stitchroom.stitches import KEEPERS
from stitchroom.writer import shown
from tests.helper import (
    Drawn, FrontWork, NumberWork, Unfit, changed_text, made, number_of, read_or_none, refusal_of, spoil_web, taken_by,
    tally,
)

CAST_ON = ((), 0, 0)
NO_SIZE = [0, 0, 0, 0]
CHOICES = [NO_SIZE, [1, 0, 0, 0], [0, 1, 2, 0], [2, 1, 0, 3], [1, 1, 1, 1], [4, 5, 3, 2]]

def told_really(items, steps, choice):
    """Of the steps that look tells those of each row as it is worked at a choice."""
    found = []
    for item in items:
        if item[0] == "row":
            found.append(next(steps))
        elif any(item[1][1:]):
            found.extend(told_really(item[2], steps, choice) * number_of(item[1], choice))
        else:
            for time in range(item[1][0]):
                found.extend(told_really(item[2], steps, choice))
    return found


class TestKnitted(unittest.TestCase):
    def test_by_hand(self):
        self.assertEqual(knitted(read("flat; cast a+1; row k, [p] a; row rest [b]"), [1, 0, 0, 0]), (
            [[CAST_ON] * 2, [(((0, 0),), 1, 0), (((0, 1),), -1, 0)], []], [], [], [(1, 0), (1, 1)]))
        self.assertEqual(knitted(read("flat; cast a+1; row k, [p] a; row rest [b]"), NO_SIZE), (
            [[CAST_ON], [(((0, 0),), 1, 0)], []], [], [], [(1, 0)]))
        self.assertEqual(knitted(read("flat; cast 2; row k turn; row rest [k]; row rest [hw]"), NO_SIZE), (
            [[CAST_ON] * 2, [(((0, 0),), 1, 0)], [(((1, 0),), -1, 0)], []], [], [("w", [(2, 0), (0, 1)])], []))
        self.assertEqual(knitted(read("round; cast 0; row [k] 0; row rest [k]"), [7] * 4), ([[], [], []], [], [], []))

    def test_by_names_of_the_interface(self):
        web = knitted(pattern=read("round; cast 1; row b"), choice=NO_SIZE)
        self.assertEqual(web, ([[CAST_ON], []], [], [], [(0, 0)]))

    def test_blocks(self):
        web = knitted(read("round; cast 1; a+1 times (row k; 2 times (row p)); row hz"), [1, 0, 0, 0])
        sides = [1, -1, -1, 1, -1, -1]
        self.assertEqual(web, ([[CAST_ON]] + [[(((row, 0),), side, 0)] for row, side in enumerate(sides)] + [[]], [],
                               [("z", [(6, 0)])], []))

    def test_drawn_patterns(self):
        draw = random.Random(18)
        seen = collections.Counter()
        for seed in range(260):
            pattern = Drawn(seed).whole()
            for found in (pattern, read_or_none(changed_text(draw, shown(pattern)))):
                if found is not None:
                    for choice in CHOICES:
                        seen[self.check(found, choice)] += 1
        self.assertGreater(seen["told"], 300, seen)
        self.assertGreater(seen["refused"], 100, seen)

    def check(self, pattern, choice):
        text, before = shown(pattern), list(choice)
        refused = refusal_of(rows_at, pattern, choice)
        if refused:
            self.assertEqual(refusal_of(knitted, pattern, choice), refused, text)
            return "refused"
        steps = told_really(pattern.things, iter(look(pattern)), choice)
        numbers = NumberWork(pattern, choice, really=True)
        needles = Needles(pattern.way, number_of(pattern.cast, choice))
        work = FrontWork(pattern.way, number_of(pattern.cast, choice))
        lies = len(work.lying)
        self.assertEqual(len(steps), len(numbers.works))
        for step, (number, marks, turn) in zip(steps, numbers.works):
            hand, other = number_of(step[1], choice), number_of(step[2], choice)
            self.assertEqual((step[0], hand, hand + other), (number, work.hand(), lies), text)
            too_many = refusal_of(needles.work, made(["s"] * (hand + 1)), turn)
            self.assertEqual((too_many[1]["place"], too_many[1]["lies"]), ("needle", hand), text)
            self.assertIsNone(work.fault(marks, turn), text)
            work.work(marks)
            lies = needles.work(made(marks), turn)
        self.assertEqual((lies, work.lying), (0, []), text)
        web = knitted(pattern, choice)
        self.assertEqual(web, work.web(), text)
        self.assertEqual(web, needles.web(), text)
        self.check_ended(web)
        self.assertEqual((shown(pattern), choice), (text, before))
        spoil_web(web)
        self.assertEqual(knitted(pattern, choice), work.web())
        return "told"

    def check_ended(self, web):
        """Each loop is drawn through, cast off or kept, just one of these."""
        ended = collections.Counter(web[3] + [name for keeper, names in web[2] for name in names])
        ended.update({parent for row in web[0] for loop in row for parent in loop[0]})
        names = [(row, place) for row, loops in enumerate(web[0]) for place in range(len(loops))]
        self.assertEqual(ended, collections.Counter(names))

    def test_refused_as_rows_at_refuses(self):
        for text, choice, refusal in (
            ("round; cast 1; row k; row [[k] a] b", NO_SIZE, NoSum),
            ("round; cast 2; 301 times (row k)", NO_SIZE, TooMany),
            ("round; cast 0; a+1 times (row rest [k])", [300, 0, 0, 0], TooMany),
            ("round; cast a; row rest [b]", [3001, 0, 0, 0], TooMany),
            ("round; cast a; row rest [b]", [10 ** 30, 0, 0, 0], TooMany),
            ("round; cast a; row rest [k]", NO_SIZE, Miscount),
            ("flat; cast a; row rest [k]; row [b] b", [1, 1, 0, 0], Miscount),
            ("round; cast 2; row hw, k; row hw", NO_SIZE, Miscount),
        ):
            pattern = read(text)
            found = refusal_of(knitted, pattern, choice)
            self.assertIs(found[0], refusal, text)
            self.assertEqual(found, refusal_of(rows_at, pattern, choice), text)

    def test_as_great_as_is_let_by(self):
        for text, choice in (
            ("round; cast a; row rest [b]", [3000, 0, 0, 0]),
            ("flat; cast 10; 298 times (row rest [k]); row rest [hw]; row [s] 0", NO_SIZE),
            ("round; cast 0; 299 times (row rest [k]); row [k] 0", NO_SIZE),
        ):
            web = knitted(read(text), choice)
            self.assertEqual((len(web[0]), web[1]), (len(rows_at(read(text), choice)) + 1, []))


class NeedleWork(NumberWork):
    """The work by numbers, each sized block worked once, with needles beside it that must go as it goes."""

    listing = True

    def __init__(self, pattern, choice, case):
        self.needles, self.case = Needles(pattern.way, number_of(pattern.cast, choice)), case
        NumberWork.__init__(self, pattern, choice)

    def row(self, number, row):
        hand = self.hand
        try:
            NumberWork.row(self, number, row)
        except Unfit as unfit:
            self.misfit(row, hand, *unfit.args)
            raise
        self.case.assertEqual(self.needles.work(made(self.works[-1][1]), row[2]), self.hand + self.other)

    def misfit(self, row, hand, number, place, lies, asked):
        """However often rest is worked, the needles refuse the row, by the same numbers but for what rest does."""
        for often in range(hand + 2 if len(row) == 5 else 1):
            rest = row[3] * often + row[4] if len(row) == 5 else []
            marks = [part[1].mark() for part in unrolled_parts(row[1] + rest, self.choice)]
            fits = sum(taken_by(mark) for mark in marks) == hand
            refusal = refusal_of(self.needles.work, made(marks), row[2])
            self.case.assertIs(refusal[0], Miscount)
            if len(row) == 3 or fits:
                found = (refusal[1]["place"], refusal[1]["lies"], refusal[1]["asked"])
                self.case.assertEqual(found, (place, lies, asked))


def unrolled_parts(parts, choice):
    found = []
    for part in parts:
        found.extend([part] if part[0] == "one" else unrolled_parts(part[2], choice) * number_of(part[1], choice))
    return found


class TestMiscountOfPatterns(unittest.TestCase):
    """A pattern that is refused with Miscount does not work at the choice that comes with it."""

    def test_drawn_patterns(self):
        draw = random.Random(21)
        places = collections.Counter()
        for seed in range(700):
            pattern = read_or_none(changed_text(draw, shown(Drawn(seed).whole())))
            refusal = refusal_of(look, pattern) if pattern else None
            if refusal and refusal[0] is Miscount and is_small(pattern, refusal[1]["choice"]):
                fields = refusal[1]
                work = NeedleWork(pattern, fields["choice"], self)
                self.assertEqual(work.fault, (fields["row"], fields["place"], fields["lies"], fields["asked"]))
                if fields["place"] in ("block", "end"):
                    self.assertEqual(len(work.needles.web()[1]), work.hand + work.other)
                places[fields["place"]] += 1
        self.assertGreater(min(places[place] for place in ("needle", "block", "end")), 10, places)
        self.assertGreater(sum(places[keeper] for keeper in KEEPERS), 5, places)


def is_small(pattern, choice):
    """Whether no number of the work by numbers at a choice is great."""
    work = NumberWork(pattern, choice)
    numbers = work.piles() + [number for step in work.told for number in step[1:]] + list(work.fault[2:])
    found = collections.Counter()

    def add(items):
        for item in items:
            if item[0] == "row":
                tally(item[1] + (item[4] + item[3] if len(item) == 5 else []), choice, 1, found)
            else:
                add(item[2])

    add(pattern.things)
    return max(numbers + list(found.values())) < 400


if __name__ == "__main__":
    unittest.main()
