"""The whole: promise [3] over drawn patterns, flat and round, at several choices, and over drawn rows."""

import collections
import random
import unittest

from stitchroom.bed import hooked
from stitchroom.charts import chart, read_chart
from stitchroom.desk import Desk
from stitchroom.looker import look
from stitchroom.moves import moves_of
from stitchroom.needles import Needles, knitted
from stitchroom.prices import fewest, shortest, words
from stitchroom.rows import rows_at, unrolled
from stitchroom.turns import front_of, mirrored_row, mirrored_web, to_flat, turned_row
from stitchroom.writer import shown
from tests.helper import (
    Drawn, FrontWork, NumberWork, all_marks, changed_text, drawn_work, front_marks, made, marked, number_of,
    plain_mirrored, plain_moves, read_or_none, refusal_of, round_web,
)

CHOICES = [[0, 0, 0, 0], [1, 0, 0, 0], [0, 1, 2, 0], [2, 1, 0, 3], [1, 1, 1, 1], [4, 5, 3, 2]]


def front_rows(pattern, choice):
    """The rows of a pattern at a choice, told from the front by the program."""
    rows = [(stitches, turn) for number, stitches, turn in rows_at(pattern, choice)]
    if pattern.way == "round":
        return [stitches for stitches, turn in rows]
    return front_of(number_of(pattern.cast, choice), rows)


def flat_web(cast, rows):
    needles = Needles("flat", cast)
    for row in rows:
        needles.work(row)
    return needles.web()


class Whole(unittest.TestCase):
    def check_front(self, cast, front, web):
        """Each way in which rows told from the front can be worked makes the web."""
        self.assertEqual(round_web(cast, front), web)
        number, rows = read_chart(chart(cast, front))
        self.assertEqual((number, marked(rows)), (cast, marked(front)))
        self.assertEqual(round_web(number, rows), web)
        self.assertEqual(flat_web(cast, to_flat(front)), web)
        self.assertEqual(marked(front_of(cast, [(row, False) for row in to_flat(front)])), marked(front))
        moves = moves_of(cast, front)
        self.assertEqual(moves, plain_moves(cast, marked(front)))
        self.assertEqual(hooked(moves), web)

    def check_mirrored(self, cast, front, web):
        """The mirrored rows make the mirrored web, and what is mirrored or turned twice is itself."""
        mirrored = [mirrored_row(row) for row in front]
        self.assertEqual(mirrored_web(web), plain_mirrored(web))
        self.check_front(cast, mirrored, mirrored_web(web))
        self.assertEqual(marked([mirrored_row(row) for row in mirrored]), marked(front))
        self.assertEqual(marked([turned_row(turned_row(row)) for row in front]), marked(front))
        self.assertEqual(mirrored_web(mirrored_web(web)), web)


class TestPatterns(Whole):
    def test_drawn_patterns(self):
        draw = random.Random(70)
        seen = collections.Counter()
        for seed in range(1000, 1120):
            pattern = Drawn(seed).whole()
            for found in (pattern, read_or_none(changed_text(draw, shown(pattern)))):
                if found is not None and refusal_of(look, found) is None:
                    for choice in CHOICES:
                        if refusal_of(rows_at, found, choice) is None:
                            self.check(found, choice, seen)
        self.assertGreater(min(seen[word] for word in ("flat", "round", "turned early", "kept", "off")), 20, seen)

    def check(self, pattern, choice, seen):
        cast, web = number_of(pattern.cast, choice), knitted(pattern, choice)
        works = [(marks, turn) for number, marks, turn in NumberWork(pattern, choice, really=True).works]
        work = FrontWork(pattern.way, cast)
        for marks, turn in works:
            work.work(marks)
        self.assertEqual((web, work.lying), (work.web(), []))
        front = front_rows(pattern, choice)
        told = front_marks(cast, works) if pattern.way == "flat" else [marks for marks, turn in works]
        self.assertEqual(marked(front), told)
        self.check_front(cast, front, web)
        self.check_mirrored(cast, front, web)
        seen[pattern.way] += 1
        seen["turned early"] += any(turn for marks, turn in works)
        seen["kept"] += web[2] != []
        seen["off"] += web[3] != []


class TestRows(Whole):
    """Rows that leave loops lying, and have every stitch from both sides."""

    def test_drawn_rows(self):
        draw = random.Random(71)
        seen = collections.Counter()
        for time in range(1200):
            way, cast, rows = drawn_work(draw)
            work = FrontWork(way, cast)
            for number, (marks, turn) in enumerate(rows):
                work.work(marks)
                seen.update((mark, way == "flat" and number % 2) for mark in marks)
            front = [made(marks) for marks, turn in rows]
            if way == "flat":
                front = front_of(cast, [(row, turn) for row, (marks, turn) in zip(front, rows)])
            self.check_front(cast, front, work.web())
            self.check_mirrored(cast, front, work.web())
        self.assertEqual({mark for mark, back in seen if back}, set(all_marks()))


class TestTold(unittest.TestCase):
    """Rows told in the fewest words are worked to the same cloth, and the desk tells what the modules do."""

    def test_drawn_patterns(self):
        seen = collections.Counter()
        for seed in range(2000, 2040):
            pattern = Drawn(seed).whole()
            if refusal_of(look, pattern) is None:
                desk = Desk()
                desk.say("new cloth " + shown(pattern))
                for choice in CHOICES:
                    if refusal_of(rows_at, pattern, choice) is None:
                        self.check(desk, pattern, choice)
                        seen[pattern.way] += 1
        self.assertGreater(min(seen["flat"], seen["round"]), 20, seen)

    def check(self, desk, pattern, choice):
        cast, sizes = number_of(pattern.cast, choice), " ".join(str(size) for size in choice)
        again = []
        for number, row in enumerate(front_rows(pattern, choice), 1):
            parts = shortest(row) if 0 < len(row) <= 30 else [("one", stitch) for stitch in row]
            again.append(unrolled(parts, choice))
            self.assertEqual(marked(again[-1]), marked(row))
            if 0 < len(row) <= 30:
                self.assertEqual(words(parts), fewest(row)[0][-1])
        self.assertEqual(round_web(cast, again), knitted(pattern, choice))
        loops = sum(len(row) for row in round_web(cast, again)[0])
        self.assertEqual(desk.say(f"loops cloth {sizes}").split(" ")[0], str(loops))


if __name__ == "__main__":
    unittest.main()
