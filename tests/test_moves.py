"""The moves of rows told from the front: promises [2], [20] and [33]."""

import collections
import random
import unittest

from stitchroom.errors import Miscount
from stitchroom.moves import moves_of
from tests.helper import (
    KEEPERS, FrontWork, all_marks, changed_rows, drawn_work, given_by, made, marked, moves_of_mark, plain_moves,
    taken_by,
)

END = ("end",)


def rows_of(*texts):
    return [made(text.split()) for text in texts]


class TestMoves(unittest.TestCase):
    def is_told(self, cast, rows, moves):
        handed = [list(row) for row in rows]
        found = moves_of(cast, rows)
        self.assertIs(type(found), list)
        self.assertEqual({type(move) for move in found}, {tuple})
        self.assertEqual(found, moves)
        self.assertEqual(rows, handed)

    def test_no_rows(self):
        for cast in (0, 1, 7):
            self.is_told(cast, [], [("cast", cast)])

    def test_rows_without_stitches(self):
        self.is_told(0, [[]], [("cast", 0), END])
        self.is_told(0, [[], [], []], [("cast", 0), END, END, END])
        self.is_told(1, rows_of("b", "", "o"), [("cast", 1), ("off", 0), END, END, ("over", 0), END])

    def test_each_kind_by_hand(self):
        for cast, row, moves in (
            (1, "k", [("lay", 0, 0), ("draw", 0, 1, 0)]),
            (1, "p", [("lay", 0, 0), ("draw", 0, -1, 0)]),
            (1, "s", [("lay", 0, 0)]),
            (0, "o", [("over", 0)]),
            (3, "k3r", [("lay", 2, 0), ("lay", 1, 0), ("lay", 0, 0), ("draw", 0, 1, 0)]),
            (2, "p2l", [("lay", 0, 0), ("lay", 1, 0), ("draw", 0, -1, 0)]),
            (1, "kx3", [("lay", 0, 0), ("draw", 0, 1, 0), ("lay", 0, 1), ("draw", 1, -1, 0), ("lay", 0, 2),
                        ("draw", 2, 1, 0)]),
            (1, "px2", [("lay", 0, 0), ("draw", 0, -1, 0), ("lay", 0, 1), ("draw", 1, 1, 0)]),
            (3, "c2f1", [("lay", 2, 0), ("draw", 0, 1, -1), ("lay", 0, 1), ("draw", 1, 1, 1), ("lay", 1, 2),
                         ("draw", 2, 1, 1)]),
            (3, "q1b2", [("lay", 1, 0), ("draw", 0, -1, 1), ("lay", 2, 1), ("draw", 1, -1, 1), ("lay", 0, 2),
                         ("draw", 2, -1, -1)]),
            (1, "b", [("off", 0)]),
            (1, "hx", [("keep", 0, "x")]),
        ):
            self.is_told(cast, rows_of(row), [("cast", cast)] + moves + [END])
        self.is_told(2, rows_of("hz s", "fz b"), [
            ("cast", 2), ("keep", 0, "z"), ("lay", 1, 0), END, ("fetch", "z", 0), ("off", 0), END])

    def test_hooks_are_counted_on(self):
        self.is_told(8, rows_of("k b k2r o hw kx2 c1f1"), [
            ("cast", 8), ("lay", 0, 0), ("draw", 0, 1, 0), ("off", 1), ("lay", 3, 1), ("lay", 2, 1), ("draw", 1, 1, 0),
            ("over", 2), ("keep", 4, "w"), ("lay", 5, 3), ("draw", 3, 1, 0), ("lay", 5, 4), ("draw", 4, -1, 0),
            ("lay", 7, 5), ("draw", 5, 1, -1), ("lay", 6, 6), ("draw", 6, 1, 1), END])

    def test_hooks_begin_anew_in_each_row(self):
        self.is_told(2, rows_of("hw k", "p fw", "s b"), [
            ("cast", 2), ("keep", 0, "w"), ("lay", 1, 0), ("draw", 0, 1, 0), END,
            ("lay", 0, 0), ("draw", 0, -1, 0), ("fetch", "w", 1), END, ("lay", 0, 0), ("off", 1), END])

    def test_every_stitch(self):
        for mark in all_marks():
            takes, gives = taken_by(mark), given_by(mark)
            put = ["h" + mark[1]] * 2 if mark[0] == "f" else []
            first = put + ["s"] * (2 * takes + 2)
            moves = plain_moves(len(first), [first])
            moves += [("lay", 0, 0)] + moves_of_mark(mark, 1, 1) + [("lay", takes + 1, gives + 1)]
            moves += moves_of_mark(mark, takes + 2, gives + 2) + [END]
            self.is_told(len(first), [made(first), made(["s", mark, "s", mark])], moves)

    def test_drawn_rows(self):
        draw = random.Random(40)
        seen = collections.Counter()
        for time in range(500):
            way, cast, work = drawn_work(draw, way="round")
            rows = [marks for marks, turn in work]
            self.is_told(cast, [made(marks) for marks in rows], plain_moves(cast, rows))
            seen.update(mark for marks in rows for mark in marks)
            seen.update(["nothing cast on"] * (cast == 0) + ["no stitches"] * ([] in rows) + ["no rows"] * (not rows))
        self.assertEqual(set(seen) - set(all_marks()), {"nothing cast on", "no stitches", "no rows"})
        self.assertEqual(len(seen), len(all_marks()) + 3)

    def test_told_lists_are_the_asker_s_own(self):
        rows = rows_of("k p", "s s")
        moves_of(2, rows).clear()
        self.assertEqual(marked(rows), [["k", "p"], ["s", "s"]])
        found = moves_of(2, rows)
        for row in rows:
            row.clear()
        rows.clear()
        self.assertEqual(found, plain_moves(2, [["k", "p"], ["s", "s"]]))

    def test_by_names_of_the_interface(self):
        self.assertEqual(moves_of(cast=1, rows=rows_of("s")), [("cast", 1), ("lay", 0, 0), END])


class TestRefused(unittest.TestCase):
    def is_refused(self, cast, rows, *fields):
        handed = [list(row) for row in rows]
        with self.assertRaises(Miscount) as refusal:
            moves_of(cast, rows)
        found = refusal.exception
        self.assertEqual((found.row, found.place, found.choice, found.lies, found.asked), fields)
        self.assertEqual(rows, handed)

    def test_the_needle(self):
        self.is_refused(3, rows_of("k k"), 1, "needle", [], 3, 2)
        self.is_refused(3, rows_of("c2f2"), 1, "needle", [], 3, 4)
        self.is_refused(3, rows_of(""), 1, "needle", [], 3, 0)
        self.is_refused(0, rows_of("", "k"), 2, "needle", [], 0, 1)
        self.is_refused(2, rows_of("kx3 b", "k k k", "k k k4r"), 3, "needle", [], 3, 6)

    def test_keepers(self):
        for keeper in KEEPERS:
            put, fetch = "h" + keeper, "f" + keeper
            self.is_refused(2, rows_of(f"{fetch} k k"), 1, keeper, [], 0, 1)
            self.is_refused(2, rows_of(f"{put} {fetch} k"), 1, keeper, [], 0, 1)
            self.is_refused(3, rows_of(f"{put} k k", f"{put} k"), 2, keeper, [], 1, 0)
            self.is_refused(3, rows_of(f"{put} {put} k", "k", f"{fetch} k"), 3, keeper, [], 2, 1)

    def test_the_needle_ahead_of_the_keepers_and_these_in_their_order(self):
        self.is_refused(3, rows_of("fz fw k"), 1, "needle", [], 3, 1)
        self.is_refused(3, rows_of("fz fx fw k k k"), 1, "w", [], 0, 1)
        self.is_refused(3, rows_of("fz fx fy k k k"), 1, "x", [], 0, 1)

    def test_the_first_row_that_does_not_fit(self):
        self.is_refused(3, rows_of("k k k", "k k", "k", "fw"), 2, "needle", [], 3, 2)
        self.is_refused(3, rows_of("k k k", "fy k k k", "k"), 2, "y", [], 0, 1)

    def test_drawn_rows(self):
        draw = random.Random(41)
        places = collections.Counter()
        for time in range(300):
            way, cast, work = drawn_work(draw, way="round")
            rows, front = [made(marks) for marks, turn in work], FrontWork("round", cast)
            for number, (marks, turn) in enumerate(work):
                for changed in changed_rows(draw, marks):
                    fault = front.fault(changed)
                    if fault is not None:
                        places[fault[1]] += 1
                        tail = rows[number + 1:] if draw.randrange(2) else rows_of("k k k", "fw")
                        self.is_refused(cast, rows[:number] + [made(changed)] + tail, *fault)
                front.work(marks)
        self.assertEqual(len(places), 5)
        self.assertGreater(min(places.values()), 20, places)


if __name__ == "__main__":
    unittest.main()
