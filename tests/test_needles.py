"""The needles: promises [2] and [18] to [21]."""

import collections
import copy
import itertools
import random
import unittest

from stitchroom.errors import Miscount
from stitchroom.needles import Needles
from stitchroom.stitches import KEEPERS
from tests.helper import (
    FrontWork, all_marks, changed_rows, drawn_marks, drawn_names, drawn_work, ending_marks, given_by, made, spoil_web,
    taken_by,
)

CAST_ON = ((), 0, 0)


def worked(way, cast, *rows):
    """Needles on which rows were worked, each a text of marks; one that turns early has turn behind them."""
    return go_on(Needles(way, cast), *rows)


def go_on(needles, *rows):
    for row in rows:
        marks = row.split()
        turn = marks[-1:] == ["turn"]
        needles.work(made(marks[:-1] if turn else marks), turn)
    return needles


class Needled(unittest.TestCase):
    def is_web(self, needles, rows, lying, kept=(), off=()):
        """The web is the one with these rows behind what was cast on."""
        web = needles.web()
        self.check_kinds(web)
        self.assertEqual(web[0][1:], rows)
        self.assertEqual(web[1:], (lying, list(kept), list(off)))

    def check_kinds(self, web):
        self.assertEqual([type(part) for part in web], [list] * 4)
        self.assertIs(type(web), tuple)
        for row in web[0]:
            self.assertIs(type(row), list)
            for loop in row:
                self.assertEqual([type(part) for part in loop], [tuple, int, int])
        self.assertEqual({type(names) for keeper, names in web[2]} | {list}, {list})
        for names in [web[1], web[3]] + [names for keeper, names in web[2]]:
            self.assertEqual({(tuple, int, int)} | {(type(name),) + tuple(map(type, name)) for name in names},
                             {(tuple, int, int)})

    def is_refused(self, needles, row, *fields):
        """The row is refused with these fields, and changes nothing."""
        marks = row.split()
        turn = marks[-1:] == ["turn"]
        before = needles.web()
        with self.assertRaises(Miscount) as refusal:
            needles.work(made(marks[:-1] if turn else marks), turn)
        found = refusal.exception
        self.assertEqual((found.row, found.place, found.choice, found.lies, found.asked), fields, row)
        self.assertEqual((type(found.choice), type(found.row), type(found.lies), type(found.asked)),
                         (list, int, int, int))
        self.assertEqual(needles.web(), before)


class TestFront(Needled):
    """Rows worked from the front, each told by hand."""

    def test_cast_on(self):
        for way in ("flat", "round"):
            self.assertEqual(Needles(way, 3).web(), ([[CAST_ON] * 3], [(0, 0), (0, 1), (0, 2)], [], []))
            self.assertEqual(Needles(way, 0).web(), ([[]], [], [], []))

    def test_plain_slip_and_over(self):
        for way in ("flat", "round"):
            self.is_web(worked(way, 3, "k p s o"), [[(((0, 0),), 1, 0), (((0, 1),), -1, 0), ((), 0, 0)]],
                        [(1, 0), (1, 1), (0, 2), (1, 2)])

    def test_lean(self):
        for way in ("flat", "round"):
            self.is_web(worked(way, 5, "k3r p2l"), [
                [(((0, 2), (0, 1), (0, 0)), 1, 0), (((0, 3), (0, 4)), -1, 0)]], [(1, 0), (1, 1)])

    def test_grow(self):
        for way in ("flat", "round"):
            self.is_web(worked(way, 2, "kx3 px2"), [
                [(((0, 0),), 1, 0), (((0, 0),), -1, 0), (((0, 0),), 1, 0), (((0, 1),), -1, 0), (((0, 1),), 1, 0)],
            ], [(1, 0), (1, 1), (1, 2), (1, 3), (1, 4)])

    def test_cross(self):
        for way in ("flat", "round"):
            self.is_web(worked(way, 6, "c2f1 q1b2"), [[
                (((0, 2),), 1, -1), (((0, 0),), 1, 1), (((0, 1),), 1, 1),
                (((0, 4),), -1, 1), (((0, 5),), -1, 1), (((0, 3),), -1, -1),
            ]], [(1, 0), (1, 1), (1, 2), (1, 3), (1, 4), (1, 5)])

    def test_off_and_keep(self):
        for way in ("flat", "round"):
            self.is_web(worked(way, 6, "hx b hw s b hx"), [[]], [(0, 3)],
                        [("w", [(0, 2)]), ("x", [(0, 0), (0, 5)])], [(0, 1), (0, 4)])

    def test_round_goes_on_from_the_right(self):
        self.is_web(worked("round", 3, "k k k", "p2r k", "s k"), [
            [(((0, 0),), 1, 0), (((0, 1),), 1, 0), (((0, 2),), 1, 0)],
            [(((1, 1), (1, 0)), -1, 0), (((1, 2),), 1, 0)],
            [(((2, 1),), 1, 0)],
        ], [(2, 0), (3, 0)])

    def test_off_is_told_by_names_and_not_by_when(self):
        self.is_web(worked("round", 3, "s s k", "b s b", "b"), [[(((0, 2),), 1, 0)], [], []], [], [],
                    [(0, 0), (0, 1), (1, 0)])
        self.is_web(worked("round", 2, "k s", "b s", "b"), [[(((0, 0),), 1, 0)], [], []], [], [], [(0, 1), (1, 0)])

    def test_what_work_tells(self):
        needles = Needles("round", 3)
        self.assertEqual(needles.work(made(["kx4", "k", "k"])), 6)
        self.assertEqual(needles.work(made(["b", "hw", "k4r"])), 1)
        self.assertEqual(needles.work(made(["b"])), 0)
        self.assertEqual(needles.work([]), 0)
        needles = Needles("flat", 3)
        self.assertEqual(needles.work(made(["kx4"]), True), 6)
        self.assertEqual(needles.work(made(["b", "b"]), turn=True), 4)
        self.assertIs(type(needles.work(made(["s", "s"]), turn=False)), int)


class TestBack(Needled):
    """Rows worked from the back, each told by hand. A first row of slipped loops brings the back about."""

    def test_plain_and_lean_and_over(self):
        self.is_web(worked("flat", 3, "k p s", "k o p2r"), [
            [(((0, 0),), 1, 0), (((0, 1),), -1, 0)],
            [(((1, 1), (1, 0)), 1, 0), ((), 0, 0), (((0, 2),), -1, 0)],
        ], [(2, 0), (2, 1), (2, 2)])
        self.is_web(worked("flat", 4, "s s s s", "k4l"), [[], [(((0, 0), (0, 1), (0, 2), (0, 3)), -1, 0)]], [(2, 0)])

    def test_slip(self):
        self.is_web(worked("flat", 3, "s s s", "s k s"), [[], [(((0, 1),), -1, 0)]], [(0, 0), (2, 0), (0, 2)])

    def test_grow(self):
        self.is_web(worked("flat", 2, "s s", "kx2 kx3"), [[], [
            (((0, 0),), -1, 0), (((0, 0),), 1, 0), (((0, 0),), -1, 0), (((0, 1),), 1, 0), (((0, 1),), -1, 0),
        ]], [(2, 0), (2, 1), (2, 2), (2, 3), (2, 4)])

    def test_cross(self):
        self.is_web(worked("flat", 3, "s s s", "c2f1"), [[], [
            (((0, 1),), -1, -1), (((0, 2),), -1, -1), (((0, 0),), -1, 1),
        ]], [(2, 0), (2, 1), (2, 2)])
        self.is_web(worked("flat", 3, "s s s", "q1b2"), [[], [
            (((0, 2),), 1, 1), (((0, 0),), 1, -1), (((0, 1),), 1, -1),
        ]], [(2, 0), (2, 1), (2, 2)])

    def test_off(self):
        self.is_web(worked("flat", 3, "s s s", "b k b"), [[], [(((0, 1),), -1, 0)]], [(2, 0)], [], [(0, 0), (0, 2)])

    def test_front_and_back_in_turns(self):
        self.is_web(worked("flat", 2, "k k", "k s", "k k", "p p"), [
            [(((0, 0),), 1, 0), (((0, 1),), 1, 0)],
            [(((1, 1),), -1, 0)],
            [(((1, 0),), 1, 0), (((2, 0),), 1, 0)],
            [(((3, 0),), 1, 0), (((3, 1),), 1, 0)],
        ], [(4, 0), (4, 1)])


class TestTurns(Needled):
    def test_turns_of_the_front_and_of_the_back(self):
        needles = Needles("flat", 4)
        self.assertEqual(needles.work(made("kk"), True), 4)
        first = [(((0, 0),), 1, 0), (((0, 1),), 1, 0)]
        self.is_web(needles, [first], [(1, 0), (1, 1), (0, 2), (0, 3)])
        self.assertEqual(needles.work(made("p"), True), 4)
        second = [(((1, 1),), 1, 0)]
        self.is_web(needles, [first, second], [(1, 0), (2, 0), (0, 2), (0, 3)])
        self.assertEqual(needles.work(made(["k2r", "k"])), 3)
        third = [(((0, 2), (2, 0)), 1, 0), (((0, 3),), 1, 0)]
        self.is_web(needles, [first, second, third], [(1, 0), (3, 0), (3, 1)])
        self.assertEqual(needles.work(made("kkk")), 3)
        fourth = [(((1, 0),), -1, 0), (((3, 0),), -1, 0), (((3, 1),), -1, 0)]
        self.is_web(needles, [first, second, third, fourth], [(4, 0), (4, 1), (4, 2)])

    def test_turned_at_once(self):
        self.is_web(worked("flat", 2, "turn", "", "k s"), [[], [], [(((0, 0),), 1, 0)]], [(3, 0), (0, 1)])
        self.is_web(worked("flat", 2, "turn", "o", "s k s"), [
            [], [((), 0, 0)], [(((0, 0),), 1, 0)]], [(2, 0), (3, 0), (0, 1)])

    def test_turned_with_nothing_left(self):
        self.is_web(worked("flat", 2, "k s turn", "k k"), [
            [(((0, 0),), 1, 0)], [(((1, 0),), -1, 0), (((0, 1),), -1, 0)]], [(2, 0), (2, 1)])

    def test_what_is_not_taken_stays_on_its_side(self):
        # Row by row: the right one is worked, then nothing of it from the back, then the two left ones.
        self.is_web(worked("flat", 3, "k turn", "turn", "p p"), [
            [(((0, 0),), 1, 0)], [], [(((0, 1),), -1, 0), (((0, 2),), -1, 0)]], [(1, 0), (3, 0), (3, 1)])


class TestKeepers(Needled):
    def test_each_keeper_from_each_side(self):
        # A row of slipped loops between two rows changes the side from which the second is worked.
        for keeper, ahead, between in itertools.product(KEEPERS, (0, 1), (0, 1)):
            rows = ["s s s"] * ahead + [f"h{keeper} h{keeper} s"] + ["s"] * between + [f"f{keeper} s f{keeper}"]
            kept = [(0, 1), (0, 2)] if ahead else [(0, 0), (0, 1)]
            left = (0, 0) if ahead else (0, 2)
            needles = worked("flat", 3, *rows[:-1])
            self.is_web(needles, [[]] * (len(rows) - 1), [left], [(keeper, kept)])
            self.is_web(go_on(needles, rows[-1]), [[]] * len(rows), [kept[0], left, kept[1]])

    def test_round(self):
        self.is_web(worked("round", 4, "hz s hz hz", "fz k fz fz"), [[], [(((0, 1),), 1, 0)]],
                    [(0, 0), (2, 0), (0, 2), (0, 3)])

    def test_new_loops_on_a_keeper(self):
        self.is_web(worked("flat", 2, "k k", "hy k"), [
            [(((0, 0),), 1, 0), (((0, 1),), 1, 0)], [(((1, 0),), -1, 0)]], [(2, 0)], [("y", [(1, 1)])])

    def test_several_in_one_row(self):
        self.is_web(worked("round", 7, "hx hw hy s hx hw s", "fw fx k fx fy k fw"), [
            [], [(((0, 3),), 1, 0), (((0, 6),), 1, 0)],
        ], [(0, 1), (0, 0), (2, 0), (0, 4), (0, 2), (2, 1), (0, 5)])
        self.is_web(worked("flat", 7, "hx hw hy s hx hw s", "fw fx k fx fy k fw"), [
            [], [(((0, 3),), -1, 0), (((0, 6),), -1, 0)],
        ], [(0, 1), (2, 0), (0, 2), (0, 0), (2, 1), (0, 4), (0, 5)])

    def test_put_and_fetched_in_one_row(self):
        needles = worked("round", 4, "hw hw s s")
        self.is_web(go_on(needles, "hw fw hw fw"), [[], []], [(0, 0), (0, 1)], [("w", [(0, 2), (0, 3)])])
        needles = worked("flat", 4, "hw hw s s")
        self.is_web(go_on(needles, "hw fw hw fw"), [[], []], [(0, 0), (0, 1)], [("w", [(0, 2), (0, 3)])])
        # From the back: the leftmost of those that lay there comes first.
        self.is_web(worked("flat", 4, "hw hw s s", "fw s fw hw"), [[], []], [(0, 0), (0, 3), (0, 1)], [("w", [(0, 2)])])

    def test_fetched_and_put_back(self):
        needles = worked("flat", 2, "hx hx", "fx fx", "hx hx", "fx fx")
        self.is_web(needles, [[]] * 4, [(0, 0), (0, 1)])

    def test_keepers_are_told_in_their_order(self):
        needles = worked("round", 5, "hz hy hx hw s")
        self.is_web(needles, [[]], [(0, 4)], [("w", [(0, 3)]), ("x", [(0, 2)]), ("y", [(0, 1)]), ("z", [(0, 0)])])
        self.is_web(go_on(needles, "fy fw s"), [[], []], [(0, 1), (0, 3), (0, 4)], [("x", [(0, 2)]), ("z", [(0, 0)])])

    def test_a_row_that_does_not_name_a_keeper_leaves_it(self):
        self.is_web(worked("flat", 3, "hw k k", "k k", "hx k"), [
            [(((0, 1),), 1, 0), (((0, 2),), 1, 0)], [(((1, 0),), -1, 0), (((1, 1),), -1, 0)], [(((2, 1),), 1, 0)],
        ], [(3, 0)], [("w", [(0, 0)]), ("x", [(2, 0)])])

    def test_turns(self):
        self.is_web(worked("flat", 4, "hw k turn", "fw k"), [[(((0, 1),), 1, 0)], [(((1, 0),), -1, 0)]],
                    [(2, 0), (0, 0), (0, 2), (0, 3)])
        self.is_web(worked("flat", 4, "s s s turn", "hw hw turn", "fw fw s"), [[], [], []],
                    [(0, 0), (0, 1), (0, 2), (0, 3)])


class TestNothing(Needled):
    def test_nothing_cast_on(self):
        for way in ("flat", "round"):
            self.is_web(worked(way, 0, "", "", ""), [[], [], []], [])
            self.is_web(worked(way, 0, "o o", "k p"), [
                [((), 0, 0)] * 2, [(((1, 0),), 1, 0), (((1, 1),), -1, 0)],
            ], [(2, 0), (2, 1)])

    def test_rows_without_stitches(self):
        self.is_web(worked("round", 1, "b", "", "o"), [[], [], [((), 0, 0)]], [(3, 0)], [], [(0, 0)])
        self.is_web(worked("flat", 1, "turn", "", "k"), [[], [], [(((0, 0),), 1, 0)]], [(3, 0)])

    def test_names_are_counted_on_behind_rows_without_loops(self):
        self.is_web(worked("round", 1, "s", "s", "k"), [[], [], [(((0, 0),), 1, 0)]], [(3, 0)])


class TestDrawnRows(Needled):
    def test_drawn_rows(self):
        draw = random.Random(5)
        seen = collections.Counter()
        for time in range(1500):
            way, cast, rows = drawn_work(draw)
            needles, work = Needles(way, cast), FrontWork(way, cast)
            self.assertEqual(needles.web(), work.web())
            for number, (marks, turn) in enumerate(rows):
                stitches = made(marks)
                handed = list(stitches)
                work.work(marks)
                told = needles.work(stitches, turn)
                self.assertEqual((told, needles.web()), (len(work.lying), work.web()), (way, cast, rows))
                self.assertEqual(stitches, handed)
                back = way == "flat" and number % 2 == 1
                seen.update((mark, back) for mark in marks)
                seen[(turn, back)] += 1
            self.check_kinds(needles.web())
        for mark in all_marks():
            self.assertGreater(min(seen[(mark, False)], seen[(mark, True)]), 0, mark)
        self.assertGreater(min(seen[(True, False)], seen[(True, True)]), 50)

    def test_each_stitch_alone(self):
        for mark, way, ahead in itertools.product(all_marks(), ("flat", "round"), (0, 1)):
            put = ["h" + mark[1]] * 2 if mark[0] == "f" else []
            ended = put + ["s"] * (taken_by(mark) * 2)
            rows = [["s"] * len(ended)] * ahead + [ended, [mark] * 2]
            needles, work = Needles(way, len(ended)), FrontWork(way, len(ended))
            for marks in rows:
                work.work(marks)
                self.assertEqual(needles.work(made(marks)), len(work.lying), mark)
                self.assertEqual(needles.web(), work.web(), mark)
            self.assertEqual(len(needles.web()[1]), given_by(mark) * 2)

    def test_drawn_rows_that_do_not_fit(self):
        draw = random.Random(6)
        places = collections.Counter()
        for time in range(1500):
            way, cast, rows = drawn_work(draw)
            needles, work = Needles(way, cast), FrontWork(way, cast)
            for marks, turn in rows:
                for changed in changed_rows(draw, marks):
                    fault = work.fault(changed, turn)
                    if fault is not None:
                        places[fault[1], fault[3] < fault[4], way, turn] += 1
                        self.is_refused(needles, " ".join(changed + ["turn"] * turn), *fault)
                work.work(marks)
                needles.work(made(marks), turn)
                self.assertEqual(needles.web(), work.web())
        for place in ("needle",) + tuple(KEEPERS):
            for below in (True, False):
                found = places[place, below, "flat", False], places[place, below, "round", False]
                self.assertGreater(min(found), 5, place)
                if (place, below) != ("needle", False):
                    self.assertGreater(places[place, below, "flat", True], 5, place)
        self.assertEqual(places["needle", False, "flat", True], 0)


class TestRefused(Needled):
    def test_too_few_and_too_many_on_the_needle(self):
        for way in ("flat", "round"):
            needles = Needles(way, 3)
            self.is_refused(needles, "k k k k", 1, "needle", [], 3, 4)
            self.is_refused(needles, "k k", 1, "needle", [], 3, 2)
            self.is_refused(needles, "", 1, "needle", [], 3, 0)
            self.is_refused(needles, "c4f4", 1, "needle", [], 3, 8)
            self.is_web(go_on(needles, "k k k"), [[(((0, place),), 1, 0) for place in range(3)]],
                        [(1, 0), (1, 1), (1, 2)])
            self.is_refused(needles, "k2r k2r", 2, "needle", [], 3, 4)
            self.is_refused(needles, "o o o", 2, "needle", [], 3, 0)
            self.is_refused(go_on(needles, "b b b"), "k", 3, "needle", [], 0, 1)

    def test_with_turn(self):
        needles = Needles("flat", 3)
        self.is_refused(needles, "k k k k turn", 1, "needle", [], 3, 4)
        go_on(needles, "k turn")
        self.is_refused(needles, "k k turn", 2, "needle", [], 1, 2)
        self.is_refused(needles, "k2r", 2, "needle", [], 1, 2)
        self.is_refused(needles, "", 2, "needle", [], 1, 0)
        go_on(needles, "turn")
        self.is_refused(needles, "k k k turn", 3, "needle", [], 2, 3)
        self.is_refused(needles, "k", 3, "needle", [], 2, 1)
        self.is_web(go_on(needles, "k k"), [
            [(((0, 0),), 1, 0)], [], [(((0, 1),), 1, 0), (((0, 2),), 1, 0)]], [(1, 0), (3, 0), (3, 1)])

    def test_each_keeper(self):
        for way, keeper in itertools.product(("flat", "round"), KEEPERS):
            put, fetch = "h" + keeper, "f" + keeper
            needles = Needles(way, 4)
            self.is_refused(needles, f"{fetch} s s s s", 1, keeper, [], 0, 1)
            self.is_refused(needles, f"{put} {fetch} s s s", 1, keeper, [], 0, 1)
            go_on(needles, f"{put} {put} s s")
            self.is_refused(needles, f"s s {fetch}", 2, keeper, [], 2, 1)
            self.is_refused(needles, f"{fetch} s {fetch} s {fetch}", 2, keeper, [], 2, 3)
            # Put on while loops lie there.
            self.is_refused(needles, f"{put} s", 2, keeper, [], 2, 0)
            self.is_refused(needles, f"{put} {fetch} s", 2, keeper, [], 2, 1)
            go_on(needles, "s s")
            self.is_refused(needles, f"s {put}", 3, keeper, [], 2, 0)
            self.is_web(go_on(needles, f"s {fetch} s {fetch}"), [[], [], []], [(0, 2), (0, 0), (0, 3), (0, 1)])

    def test_with_turn_at_a_keeper(self):
        needles = worked("flat", 3, "hw hw s")
        self.is_refused(needles, "hw turn", 2, "w", [], 2, 0)
        self.is_refused(needles, "fw turn", 2, "w", [], 2, 1)
        self.is_refused(needles, "fw fw fw turn", 2, "w", [], 2, 3)
        self.is_web(go_on(needles, "fw fw turn"), [[], []], [(0, 2), (0, 0), (0, 1)])

    def test_the_needle_is_asked_ahead_of_the_keepers(self):
        needles = worked("round", 4, "hw hx s s")
        for row in ("hw s s", "fw fw fx k k k", "k fx fx", "hz fz fz"):
            takes = sum(taken_by(mark) for mark in row.split())
            self.is_refused(needles, row, 2, "needle", [], 2, takes)

    def test_keepers_are_asked_in_their_order(self):
        needles = worked("round", 6, "hw hx hy hz s s")
        self.is_refused(needles, "hz hy", 2, "y", [], 1, 0)
        self.is_refused(needles, "fz fz fx fx s s", 2, "x", [], 1, 2)
        self.is_refused(needles, "fz fz fy fy fx fw fw s s", 2, "w", [], 1, 2)
        self.is_refused(needles, "fz fz fw fx fy s s", 2, "z", [], 1, 2)
        self.is_refused(needles, "fy fx s s hx fx", 2, "needle", [], 2, 3)
        self.is_web(go_on(needles, "fz fy fx fw s s"), [[], []], [(0, 3), (0, 2), (0, 1), (0, 0), (0, 4), (0, 5)])

    def test_fields_are_the_asker_s_own(self):
        needles = Needles("round", 1)
        for time in range(2):
            with self.assertRaises(Miscount) as refusal:
                needles.work([])
            self.assertEqual(refusal.exception.choice, [])
            refusal.exception.choice.append(1)

    def test_stitches_stay(self):
        needles, stitches = Needles("flat", 2), made(["k", "p", "fw"])
        handed = list(stitches)
        with self.assertRaises(Miscount):
            needles.work(stitches)
        self.assertEqual(stitches, handed)


class TestBegunOnACloth(Needled):
    def test_with_names(self):
        cloth = worked("flat", 3, "k b hx", "hw").web()
        self.assertEqual(cloth, ([[CAST_ON] * 3, [(((0, 0),), 1, 0)], []], [], [("w", [(1, 0)]), ("x", [(0, 2)])],
                                 [(0, 1)]))
        for way in ("flat", "round"):
            needles = Needles(way, 0, cloth, [(0, 1), (0, 0)])
            picked = [(((0, 1),), 1, 0), (((0, 0),), 1, 0)]
            self.is_web(needles, cloth[0][1:] + [picked], [(3, 0), (3, 1)], cloth[2], [(0, 1)])
            self.is_refused(needles, "k", 4, "needle", [], 2, 1)
            self.is_refused(needles, "k k fx fx", 4, "x", [], 1, 2)
            self.assertEqual(needles.work(made(["k", "p", "fx"])), 3)
            row = [(((3, 0),), 1, 0), (((3, 1),), -1, 0)]
            self.is_web(needles, cloth[0][1:] + [picked, row], [(4, 0), (4, 1), (0, 2)], [("w", [(1, 0)])], [(0, 1)])
            go_on(needles, "b b b")
            off = [(0, 1), (0, 2), (4, 0), (4, 1)]
            self.is_web(needles, cloth[0][1:] + [picked, row, []], [], [("w", [(1, 0)])], off)

    def test_the_second_row_is_worked_from_the_back(self):
        cloth = worked("flat", 1, "b").web()
        self.is_web(worked_on("flat", cloth, [(0, 0)], "k", "k"), [
            [], [(((0, 0),), 1, 0)], [(((2, 0),), 1, 0)], [(((3, 0),), -1, 0)]], [(4, 0)], [], [(0, 0)])

    def test_the_cast_is_not_looked_at(self):
        cloth = worked("round", 2, "b b").web()
        for cast in (0, 1, 2, 7, 10 ** 30):
            self.is_web(Needles("round", cast, cloth, [(0, 1)]), [[], [(((0, 1),), 1, 0)]], [(2, 0)], [],
                        [(0, 0), (0, 1)])

    def test_with_no_names(self):
        cloth = worked("round", 2, "b hz").web()
        for way in ("flat", "round"):
            needles = Needles(way, 5, cloth, [])
            self.is_web(needles, [[], []], [], [("z", [(0, 1)])], [(0, 0)])
            self.is_refused(needles, "k", 3, "needle", [], 0, 1)
            self.is_web(go_on(needles, "o fz"), [[], [], [((), 0, 0)]], [(3, 0), (0, 1)], [], [(0, 0)])

    def test_on_a_cloth_of_no_loops(self):
        self.assertEqual(Needles("flat", 3, Needles("flat", 0).web(), []).web(), ([[], []], [], [], []))
        self.assertEqual(Needles("flat", 3, worked("round", 0, "", "").web(), []).web(), ([[], [], [], []], [], [], []))

    def test_by_names_of_the_interface(self):
        cloth = worked("round", 1, "b").web()
        needles = Needles(way="round", cast=0, web=cloth, names=[(0, 0)])
        self.is_web(needles, [[], [(((0, 0),), 1, 0)]], [(2, 0)], [], [(0, 0)])
        self.assertEqual(needles.work(stitches=made(["kx2"]), turn=False), 2)
        self.assertEqual(Needles("round", 2, None, None).web(), Needles("round", 2).web())

    def test_keepers_of_the_cloth_from_each_side(self):
        for ahead in (0, 1):
            cloth = worked("flat", 3, *["s s s"] * ahead, "hw hw hw").web()
            self.assertEqual(cloth[2], [("w", [(0, 0), (0, 1), (0, 2)])])
            for between in (0, 1):
                needles = worked_on("flat", cloth, [], *[""] * between, "fw fw fw")
                self.assertEqual(needles.web()[1:], ([(0, 0), (0, 1), (0, 2)], [], []))

    def test_drawn_twice_in_turn(self):
        draw = random.Random(11)
        for time in range(150):
            needles, work = self.ended(draw, draw.choice(("flat", "round")), draw.randrange(8))
            for turn in range(2):
                web = needles.web()
                self.assertEqual(web, work.web())
                names = drawn_names(draw, web)
                before = copy.deepcopy((web, names))
                way = draw.choice(("flat", "round"))
                needles, work = self.ended(draw, way, draw.randrange(8), web, names, before)
                self.assertEqual(needles.web(), work.web())

    def ended(self, draw, way, cast, web=None, names=None, before=None):
        """Needles and a second work on which some drawn rows were worked, and all that lay was cast off or kept."""
        needles, work = Needles(way, cast, web, names), FrontWork(way, cast, web, names or ())
        if before is not None:
            self.assertEqual((web, names), before)
            spoil_web(web)
            names.append("spoilt")
            self.assertEqual(needles.web(), work.web())
        for row in range(draw.randrange(5)):
            turn = way == "flat" and draw.randrange(3) == 0
            marks = drawn_marks(draw, work, turn)
            work.work(marks)
            self.assertEqual(needles.work(made(marks), turn), len(work.lying))
            self.assertEqual(needles.web(), work.web())
        while work.lying:
            marks = ending_marks(draw, work)
            work.work(marks)
            needles.work(made(marks))
        return (needles, work)


def worked_on(way, cloth, names, *rows):
    return go_on(Needles(way, 0, cloth, names), *rows)


class TestOwn(Needled):
    ROWS = ("hw b k k hx", "p2r fw", "k s turn", "k k", "b hw")

    def test_a_told_web_stays_when_more_is_worked(self):
        needles = Needles("flat", 5)
        told = [needles.web()]
        for row in self.ROWS:
            told.append(go_on(needles, row).web())
        for many, web in enumerate(told):
            self.assertEqual(web, worked("flat", 5, *self.ROWS[:many]).web())
        self.assertEqual(len({str(web) for web in told}), 6)

    def test_what_is_done_to_a_told_web_changes_nothing(self):
        needles = Needles("flat", 5)
        spoil_web(needles.web())
        for many, row in enumerate(self.ROWS):
            self.assertEqual(needles.web(), worked("flat", 5, *self.ROWS[:many]).web())
            go_on(needles, row)
            spoil_web(needles.web())
        self.assertEqual(needles.web(), worked("flat", 5, *self.ROWS).web())

    def test_two_webs_told_one_behind_the_other(self):
        needles = worked("flat", 5, *self.ROWS)
        first, second = needles.web(), needles.web()
        before = copy.deepcopy(second)
        spoil_web(first)
        self.assertEqual(second, before)

    def test_two_needles_are_apart(self):
        first, second = Needles("flat", 2), Needles("flat", 2)
        go_on(first, "hw b")
        self.assertEqual(second.web(), Needles("flat", 2).web())
        cloth = worked("round", 2, "b b").web()
        third, fourth = Needles("round", 0, cloth, [(0, 0)]), Needles("round", 0, cloth, [(0, 0)])
        before = fourth.web()
        go_on(third, "hx", "fx", "k", "b")
        self.assertEqual(fourth.web(), before)

    def test_what_is_handed_in_may_be_changed_later(self):
        cloth, names = worked("flat", 4, "hw b hz hw").web(), [(0, 1)]
        handed = copy.deepcopy((cloth, names))
        needles = Needles("flat", 0, cloth, names)
        self.assertEqual((cloth, names), handed)
        before = needles.web()
        spoil_web(cloth)
        names.clear()
        self.assertEqual(needles.web(), before)
        go_on(needles, "fw hx fw", "fz k k fx")
        cloth, names = handed
        self.assertEqual(needles.web(), worked_on("flat", cloth, names, "fw hx fw", "fz k k fx").web())
        self.assertEqual((cloth, names), copy.deepcopy(handed))

    def test_the_given_cloth_stays_when_more_is_worked(self):
        cloth, names = worked("flat", 4, "hw b hz hw").web(), [(0, 1)]
        handed = copy.deepcopy((cloth, names))
        worked_on("flat", cloth, names, "fw hw fw", "b s fz", "b b turn").web()
        self.assertEqual((cloth, names), handed)

    def test_stitches_may_be_changed_later(self):
        needles, stitches = Needles("round", 2), made(["k", "p"])
        needles.work(stitches)
        before = needles.web()
        stitches.clear()
        self.assertEqual(needles.web(), before)


if __name__ == "__main__":
    unittest.main()
