"""Rows and webs turned about: promises [2], [3] and [28] to [30]."""

import collections
import copy
import random
import unittest

from stitchroom.errors import Miscount
from stitchroom.needles import Needles
from stitchroom.turns import front_of, mirrored_row, mirrored_web, to_flat, turned_row
from tests.helper import (
    KEEPERS, FrontWork, all_marks, changed_rows, drawn_names, drawn_webs, drawn_work, front_marks, made, marked,
    mirrored_mark, plain_mirrored, round_web, spoil_web, state, turned_mark,
)

CAST_ON = ((), 0, 0)


def flat_rows(*texts):
    """Flat rows as they are handed in, each told by marks; one that turns early has turn behind them."""
    rows = []
    for text in texts:
        marks = text.split()
        turn = marks[-1:] == ["turn"]
        rows.append((made(marks[:-1] if turn else marks), turn))
    return rows


def flat_web(cast, rows):
    needles = Needles("flat", cast)
    for stitches, turn in rows:
        needles.work(stitches, turn)
    return needles.web()


def told(rows):
    """Rows of stitches, each as a text of marks."""
    return [" ".join(stitch.mark() for stitch in row) for row in rows]


def drawn_rows(draw):
    """Rows of any stitches, by marks, that need not fit."""
    return [draw.choices(all_marks(), k=draw.randrange(9)) for row in range(draw.randrange(7))]


class Turned(unittest.TestCase):
    def is_row(self, row, marks):
        """A row of stitches that has these marks, and each stitch answers what one of its mark does."""
        self.assertIs(type(row), list)
        self.assertEqual([state(stitch) for stitch in row], [state(stitch) for stitch in made(marks)])


class TestRows(Turned):
    def test_by_hand(self):
        row = "k p2l c2f1 o hw fz b s kx3 px2 q1b4 k4r".split()
        self.is_row(turned_row(made(row)), "p4r c4b1 px2 px3 s b fz hw o q1f2 k2l p".split())
        self.is_row(mirrored_row(made(row)), "k4l q4f1 kx2 kx3 s b fz hw o c1b2 p2r k".split())

    def test_none(self):
        self.is_row(turned_row([]), [])
        self.is_row(mirrored_row([]), [])

    def test_every_stitch(self):
        for mark in all_marks():
            self.is_row(turned_row(made([mark])), [turned_mark(mark)])
            self.is_row(mirrored_row(made([mark])), [mirrored_mark(mark)])
            self.is_row(turned_row(made([mark, "k", "o"])), ["o", "p", turned_mark(mark)])
            self.is_row(mirrored_row(made([mark, "k", "o"])), ["o", "k", mirrored_mark(mark)])

    def test_drawn_rows(self):
        draw = random.Random(28)
        for time in range(300):
            marks = draw.choices(all_marks(), k=draw.randrange(30))
            row = made(marks)
            handed = list(row)
            self.is_row(turned_row(row), [turned_mark(mark) for mark in marks[::-1]])
            self.is_row(mirrored_row(row), [mirrored_mark(mark) for mark in marks[::-1]])
            self.is_row(turned_row(turned_row(row)), marks)
            self.is_row(mirrored_row(mirrored_row(row)), marks)
            self.is_row(mirrored_row(turned_row(row)), marked(turned_row(mirrored_row(row))))
            self.assertEqual(row, handed)
            self.assertEqual(marked(row), marks)

    def test_told_lists_are_the_asker_s_own(self):
        row = made(["k", "p", "o"])
        for turn in (turned_row, mirrored_row):
            found = turn(row)
            found.reverse()
            found.clear()
            self.assertEqual((marked(row), len(turn(row))), (["k", "p", "o"], 3))
            found = turn(row)
            before = marked(found)
            row.append("spoilt")
            self.assertEqual(marked(found), before)
            row.pop()
        for turn in (turned_row, mirrored_row):
            empty = turn([])
            empty.append("spoilt")
            self.assertEqual(turn([]), [])

    def test_by_names_of_the_interface(self):
        self.is_row(turned_row(stitches=made(["k", "o"])), ["o", "p"])
        self.is_row(mirrored_row(stitches=made(["k2r", "o"])), ["o", "k2l"])
        self.assertEqual(marked(to_flat(rows=[made(["k"])] * 2)), [["k"], ["p"]])
        self.assertEqual(marked(front_of(cast=1, rows=flat_rows("k", "k"))), [["k"], ["p"]])
        self.assertEqual(mirrored_web(web=([[CAST_ON] * 2], [], [], [(0, 0)])), ([[CAST_ON] * 2], [], [], [(0, 1)]))


class TestToFlat(Turned):
    def is_flat(self, rows, marks):
        found = to_flat(rows)
        self.assertIs(type(found), list)
        self.assertEqual(len(found), len(marks))
        for row, each in zip(found, marks):
            self.is_row(row, each)

    def test_none_one_and_several(self):
        self.is_flat([], [])
        self.is_flat([made(["k", "p2l"])], [["k", "p2l"]])
        self.is_flat([[]], [[]])
        self.is_flat([made(["k", "p2l"])] * 2, [["k", "p2l"], ["k2l", "p"]])
        row = ["k", "c1f2", "o"]
        turned = ["o", "q2f1", "p"]
        self.is_flat([made(row)] * 5, [row, turned, row, turned, row])
        self.is_flat([[], made(row), [], made(row), made(row), []], [[], turned, [], turned, row, []])

    def test_drawn_rows(self):
        draw = random.Random(29)
        for time in range(200):
            marks = drawn_rows(draw)
            rows = [made(row) for row in marks]
            handed = [list(row) for row in rows]
            flat = [[turned_mark(mark) for mark in row[::-1]] if place % 2 else row for place, row in enumerate(marks)]
            self.is_flat(rows, flat)
            self.is_flat(to_flat(rows), marks)
            self.assertEqual(rows, handed)

    def test_drawn_rows_are_worked_flat_to_the_web_of_round_work(self):
        draw = random.Random(30)
        for time in range(300):
            way, cast, work = drawn_work(draw, way="round")
            rows = [made(marks) for marks, turn in work]
            self.assertEqual(flat_web(cast, [(row, False) for row in to_flat(rows)]), round_web(cast, rows))

    def test_told_lists_are_the_asker_s_own(self):
        rows = [made(["k"]), made(["k"]), []]
        found = to_flat(rows)
        for row in found:
            row.append("spoilt")
        found.clear()
        self.assertEqual(marked(rows), [["k"], ["k"], []])
        found = to_flat(rows)
        for row in rows:
            row.clear()
        rows.clear()
        self.assertEqual(marked(found), [["k"], ["p"], []])


class TestFront(Turned):
    def is_front(self, cast, rows, texts):
        """The front of flat rows is told by these texts, and worked round it makes their web."""
        before = [(list(stitches), turn) for stitches, turn in rows]
        found = front_of(cast, rows)
        self.assertEqual((type(found), len(found)), (list, len(texts)))
        for row, text in zip(found, texts):
            self.is_row(row, text.split())
        self.assertEqual(rows, before)
        self.assertEqual(round_web(cast, found), flat_web(cast, rows))

    def test_no_rows(self):
        for cast in (0, 1, 5):
            self.is_front(cast, [], [])

    def test_without_turns(self):
        self.is_front(5, flat_rows("k p k2r o s", "k p2l c1f1", "kx3 q2b1"),
                      ["k p k2r o s", "q1f1 k2l p", "kx3 q2b1"])
        self.is_front(2, flat_rows("k p", "k p", "k p", "b b"), ["k p", "k p", "k p", "b b"])

    def test_rows_without_stitches(self):
        self.is_front(0, flat_rows("", "", ""), ["", "", ""])
        self.is_front(0, flat_rows("", "o o", "k s"), ["", "o o", "k s"])
        self.is_front(1, flat_rows("b", "", "o"), ["b", "", "o"])

    def test_what_is_not_taken_lies_behind(self):
        self.is_front(4, flat_rows("k k turn"), ["k k s s"])
        self.is_front(4, flat_rows("turn"), ["s s s s"])
        self.is_front(4, flat_rows("k k k k turn"), ["k k k k"])

    def test_what_is_not_taken_lies_ahead(self):
        # What the first row left is on the other needle: at the left of the cloth, behind in the front's order.
        self.is_front(4, flat_rows("k k turn", "k p"), ["k k s s", "k p s s"])
        self.is_front(4, flat_rows("k k turn", "k turn", "p2r k"), ["k k s s", "s p s s", "s p2r k"])
        self.is_front(4, flat_rows("k k turn", "k turn", "p turn", "k k"), ["k k s s", "s p s s", "s p s s", "p p s s"])

    def test_ahead_and_behind(self):
        self.is_front(6, flat_rows("k k k k turn", "p p p turn", "k2r turn", "k turn", "o turn"), [
            "k k k k s s", "s k k k s s", "s k2r s s s", "s p s s s", "s o s s s s"])

    def test_turned_at_once(self):
        self.is_front(2, flat_rows("turn", "", "k p"), ["s s", "s s", "k p"])
        self.is_front(2, flat_rows("turn", "o", "k k k"), ["s s", "o s s", "k k k"])
        self.is_front(2, flat_rows("o turn", "turn", "o k s"), ["o s s", "s s s", "s o k s"])

    def test_keepers(self):
        self.is_front(4, flat_rows("hw hw k k", "k fw k fw"), ["hw hw k k", "fw p fw p"])
        self.is_front(5, flat_rows("s hz hz turn", "fz s fz"), ["s hz hz s s", "fz s fz s s"])
        self.is_front(5, flat_rows("k k turn", "hx turn", "fx k b b"), ["k k s s s", "s hx s s s", "s fx k b b"])

    def test_slips_are_stitches_of_their_own_kind(self):
        row = front_of(3, flat_rows("k turn"))[0]
        for stitch in row[1:]:
            self.assertEqual((stitch.mark(), stitch.ties(), stitch.ends()), ("s", [("same", 0)], []))

    def test_drawn_rows(self):
        draw = random.Random(31)
        seen = collections.Counter()
        for time in range(700):
            way, cast, work = drawn_work(draw, way="flat")
            rows = [(made(marks), turn) for marks, turn in work]
            front = front_marks(cast, work)
            self.is_front(cast, rows, [" ".join(marks) for marks in front])
            for number, ((marks, turn), whole) in enumerate(zip(work, front)):
                back = number % 2 == 1
                kept = any(mark[0] in "hf" for mark in marks)
                seen.update({("turn", turn, back), ("none", not marks, back), ("kept", kept, back)})
                if len(whole) > len(marks):
                    seen[("ahead", whole[0] == "s", back)] += 1
                    seen[("behind", whole[-1] == "s", back)] += 1
        self.assertGreater(min(seen.values()), 30, seen)
        self.assertEqual(len(seen), 20)

    def test_turned_and_told_again_it_is_the_same(self):
        draw = random.Random(32)
        for time in range(100):
            way, cast, work = drawn_work(draw, way="flat")
            front = front_of(cast, [(made(marks), turn) for marks, turn in work])
            again = front_of(cast, [(row, False) for row in to_flat(front)])
            self.assertEqual(told(again), told(front))

    def test_told_lists_are_the_asker_s_own(self):
        rows = flat_rows("k k", "p turn", "k")
        found = front_of(2, rows)
        for row in found:
            row.reverse()
            row.append("spoilt")
        found.clear()
        self.is_front(2, rows, ["k k", "s k", "s k"])
        found = front_of(2, rows)
        before = told(found)
        for stitches, turn in rows:
            stitches.clear()
        rows.clear()
        self.assertEqual(told(found), before)


class TestFrontRefused(Turned):
    def is_refused(self, cast, rows, *fields):
        before = [(list(stitches), turn) for stitches, turn in rows]
        with self.assertRaises(Miscount) as refusal:
            front_of(cast, rows)
        found = refusal.exception
        self.assertEqual((found.row, found.place, found.choice, found.lies, found.asked), fields)
        self.assertEqual(rows, before)

    def test_the_needle(self):
        self.is_refused(3, flat_rows("k k"), 1, "needle", [], 3, 2)
        self.is_refused(3, flat_rows("k k k k"), 1, "needle", [], 3, 4)
        self.is_refused(3, flat_rows("k k k k turn"), 1, "needle", [], 3, 4)
        self.is_refused(0, flat_rows("k"), 1, "needle", [], 0, 1)
        self.is_refused(2, flat_rows("k k", "k2r", "k k"), 3, "needle", [], 1, 2)
        self.is_refused(3, flat_rows("k turn", "k k"), 2, "needle", [], 1, 2)
        self.is_refused(3, flat_rows("k turn", "s", "k k"), 3, "needle", [], 3, 2)

    def test_keepers(self):
        for keeper in KEEPERS:
            put, fetch = "h" + keeper, "f" + keeper
            self.is_refused(3, flat_rows(f"{fetch} k k k"), 1, keeper, [], 0, 1)
            self.is_refused(3, flat_rows(f"{put} k k", f"{put} k"), 2, keeper, [], 1, 0)
            self.is_refused(3, flat_rows(f"{put} {put} turn", f"{fetch}"), 2, keeper, [], 2, 1)

    def test_the_needle_ahead_of_the_keepers_and_these_in_their_order(self):
        self.is_refused(3, flat_rows("fz fw k"), 1, "needle", [], 3, 1)
        self.is_refused(3, flat_rows("fz fx fw k k k"), 1, "w", [], 0, 1)
        self.is_refused(3, flat_rows("fz fx fy k k k"), 1, "x", [], 0, 1)

    def test_the_first_row_that_does_not_fit(self):
        self.is_refused(3, flat_rows("k k k", "k k", "k", "fw"), 2, "needle", [], 3, 2)
        self.is_refused(3, flat_rows("k k k", "fy k k k", "k"), 2, "y", [], 0, 1)

    def test_drawn_rows(self):
        draw = random.Random(33)
        places = collections.Counter()
        for time in range(300):
            way, cast, work = drawn_work(draw, way="flat")
            rows, front = [(made(marks), turn) for marks, turn in work], FrontWork("flat", cast)
            for number, (marks, turn) in enumerate(work):
                for changed in changed_rows(draw, marks):
                    fault = front.fault(changed, turn)
                    if fault is not None:
                        places[fault[1], turn] += 1
                        tail = rows[number + 1:] if draw.randrange(2) else flat_rows("k k k", "fw")
                        self.is_refused(cast, rows[:number] + [(made(changed), turn)] + tail, *fault)
                front.work(marks)
        self.assertEqual(len(places), 10)
        self.assertGreater(min(places.values()), 5, places)


def small_web():
    """Loops lying, kept on two keepers and cast off, rows without loops, and loops through several, one and none."""
    return (
        [[CAST_ON] * 5, [], [(((0, 1), (0, 0)), 1, 0), (((0, 2),), -1, 1), ((), 0, 0)], [(((2, 2), (2, 1)), -1, -1)],
         [], [((), 0, 0)] * 2],
        [(2, 0), (5, 0)], [("w", [(5, 1)]), ("y", [(0, 3), (3, 0)])], [(0, 4)],
    )


class TestMirroredWeb(unittest.TestCase):
    def test_by_hand(self):
        self.assertEqual(mirrored_web(small_web()), (
            [[CAST_ON] * 5, [], [((), 0, 0), (((0, 2),), -1, 1), (((0, 3), (0, 4)), 1, 0)],
             [(((2, 0), (2, 1)), -1, -1)], [], [((), 0, 0)] * 2],
            [(5, 1), (2, 2)], [("w", [(5, 0)]), ("y", [(3, 0), (0, 1)])], [(0, 0)],
        ))

    def test_off_is_told_in_the_order_of_the_new_names(self):
        web = ([[CAST_ON] * 4, [CAST_ON] * 3], [(0, 3)], [], [(0, 0), (0, 1), (0, 2), (1, 0), (1, 1), (1, 2)])
        self.assertEqual(mirrored_web(web), (
            web[0], [(0, 0)], [], [(0, 1), (0, 2), (0, 3), (1, 0), (1, 1), (1, 2)]))

    def test_no_loops(self):
        for rows in ([[]], [[], []], [[], [], []]):
            self.assertEqual(mirrored_web((rows, [], [], [])), (rows, [], [], []))

    def test_drawn_webs(self):
        seen = collections.Counter()
        for draw, web in drawn_webs(34, 400):
            before = copy.deepcopy(web)
            found = mirrored_web(web)
            self.assertEqual(found, plain_mirrored(web))
            self.assertEqual(mirrored_web(found), web)
            self.assertEqual(web, before)
            self.check_kinds(found)
            seen.update(part for part, many in zip(("rows", "lying", "kept", "off"), web) if many)
            seen["empty"] += [] in web[0][:-1]
            seen["other"] += found != web
        self.assertGreater(min(seen.values()), 40, seen)

    def check_kinds(self, web):
        self.assertIs(type(web), tuple)
        self.assertEqual([type(part) for part in web], [list] * 4)
        for row in web[0]:
            self.assertIs(type(row), list)
            for loop in row:
                self.assertEqual([type(part) for part in loop], [tuple, int, int])
        for each in web[2]:
            self.assertEqual([type(part) for part in each], [str, list])

    def test_mirrored_rows_make_the_mirrored_web(self):
        draw = random.Random(35)
        seen = collections.Counter()
        for time in range(500):
            way, cast, work = drawn_work(draw, way="round")
            rows = [made(marks) for marks, turn in work]
            web = round_web(cast, rows)
            self.assertEqual(round_web(cast, [mirrored_row(row) for row in rows]), plain_mirrored(web))
            self.assertEqual(mirrored_web(web), plain_mirrored(web))
            seen.update(mark for marks, turn in work for mark in marks)
        self.assertEqual(set(seen), set(all_marks()))

    def test_a_mirrored_cloth_may_be_begun_on(self):
        draw = random.Random(36)
        for time in range(60):
            way, cast, work = drawn_work(draw, way="round")
            web = round_web(cast, [made(marks) for marks, turn in work])
            web = round_web(cast, [made(marks) for marks, turn in work] + [made(["b"] * len(web[1]))])
            names = drawn_names(draw, web)
            mirrored = [(row, len(web[0][row]) - 1 - place) for row, place in names[::-1]]
            self.assertEqual(Needles("round", 0, mirrored_web(web), mirrored).web(),
                             mirrored_web(Needles("round", 0, web, names).web()))

    def test_told_webs_are_the_asker_s_own(self):
        web = small_web()
        spoil_web(mirrored_web(web))
        self.assertEqual((web, mirrored_web(web)), (small_web(), plain_mirrored(small_web())))
        found = mirrored_web(web)
        spoil_web(web)
        self.assertEqual(found, plain_mirrored(small_web()))


if __name__ == "__main__":
    unittest.main()
