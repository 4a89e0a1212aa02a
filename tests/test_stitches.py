"""The stitches: promises [2], [4], [5], [6]."""

import unittest

from stitchroom.stitches import Cross, Fetch, Grow, Keep, Lean, Off, Over, Plain, Slip, Stitch
from tests.helper import KEEPERS, SIDES, all_made, all_stitches, state

# Of point 5, all but the crossings: stitch, mark, takes, gives, ties, ends.
TOLD = [
    (Plain(1), "k", 1, 1, [("new", (0,), 1, 0)], []),
    (Plain(-1), "p", 1, 1, [("new", (0,), -1, 0)], []),
    (Slip(), "s", 1, 1, [("same", 0)], []),
    (Over(), "o", 0, 1, [("new", (), 0, 0)], []),
    (Lean(2, "r", 1), "k2r", 2, 1, [("new", (1, 0), 1, 0)], []),
    (Lean(3, "r", 1), "k3r", 3, 1, [("new", (2, 1, 0), 1, 0)], []),
    (Lean(4, "r", 1), "k4r", 4, 1, [("new", (3, 2, 1, 0), 1, 0)], []),
    (Lean(2, "l", 1), "k2l", 2, 1, [("new", (0, 1), 1, 0)], []),
    (Lean(3, "l", 1), "k3l", 3, 1, [("new", (0, 1, 2), 1, 0)], []),
    (Lean(4, "l", 1), "k4l", 4, 1, [("new", (0, 1, 2, 3), 1, 0)], []),
    (Lean(2, "r", -1), "p2r", 2, 1, [("new", (1, 0), -1, 0)], []),
    (Lean(3, "r", -1), "p3r", 3, 1, [("new", (2, 1, 0), -1, 0)], []),
    (Lean(4, "r", -1), "p4r", 4, 1, [("new", (3, 2, 1, 0), -1, 0)], []),
    (Lean(2, "l", -1), "p2l", 2, 1, [("new", (0, 1), -1, 0)], []),
    (Lean(3, "l", -1), "p3l", 3, 1, [("new", (0, 1, 2), -1, 0)], []),
    (Lean(4, "l", -1), "p4l", 4, 1, [("new", (0, 1, 2, 3), -1, 0)], []),
    (Grow(2, 1), "kx2", 1, 2, [("new", (0,), 1, 0), ("new", (0,), -1, 0)], []),
    (Grow(3, 1), "kx3", 1, 3, [("new", (0,), 1, 0), ("new", (0,), -1, 0), ("new", (0,), 1, 0)], []),
    (Grow(4, 1), "kx4", 1, 4,
     [("new", (0,), 1, 0), ("new", (0,), -1, 0), ("new", (0,), 1, 0), ("new", (0,), -1, 0)], []),
    (Grow(2, -1), "px2", 1, 2, [("new", (0,), -1, 0), ("new", (0,), 1, 0)], []),
    (Grow(3, -1), "px3", 1, 3, [("new", (0,), -1, 0), ("new", (0,), 1, 0), ("new", (0,), -1, 0)], []),
    (Grow(4, -1), "px4", 1, 4,
     [("new", (0,), -1, 0), ("new", (0,), 1, 0), ("new", (0,), -1, 0), ("new", (0,), 1, 0)], []),
    (Off(), "b", 1, 0, [], [(0, "off")]),
    (Keep("w"), "hw", 1, 0, [], [(0, "w")]),
    (Keep("x"), "hx", 1, 0, [], [(0, "x")]),
    (Keep("y"), "hy", 1, 0, [], [(0, "y")]),
    (Keep("z"), "hz", 1, 0, [], [(0, "z")]),
    (Fetch("w"), "fw", 0, 1, [("from", "w")], []),
    (Fetch("x"), "fx", 0, 1, [("from", "x")], []),
    (Fetch("y"), "fy", 0, 1, [("from", "y")], []),
    (Fetch("z"), "fz", 0, 1, [("from", "z")], []),
]

# Some crossings to the letter; the others are told one by one by the sentence of point 5.
TOLD_CROSSINGS = [
    (Cross(1, 1, "f", 1), "c1f1", 2, [("new", (1,), 1, -1), ("new", (0,), 1, 1)]),
    (Cross(1, 1, "b", 1), "c1b1", 2, [("new", (1,), 1, 1), ("new", (0,), 1, -1)]),
    (Cross(2, 1, "f", 1), "c2f1", 3, [("new", (2,), 1, -1), ("new", (0,), 1, 1), ("new", (1,), 1, 1)]),
    (Cross(1, 4, "b", -1), "q1b4", 5,
     [("new", (1,), -1, 1), ("new", (2,), -1, 1), ("new", (3,), -1, 1), ("new", (4,), -1, 1),
      ("new", (0,), -1, -1)]),
    (Cross(2, 2, "b", -1), "q2b2", 4,
     [("new", (2,), -1, 1), ("new", (3,), -1, 1), ("new", (0,), -1, -1), ("new", (1,), -1, -1)]),
    (Cross(4, 3, "f", -1), "q4f3", 7,
     [("new", (4,), -1, -1), ("new", (5,), -1, -1), ("new", (6,), -1, -1),
      ("new", (0,), -1, 1), ("new", (1,), -1, 1), ("new", (2,), -1, 1), ("new", (3,), -1, 1)]),
]


def contrary(things):
    return list(reversed(things))


def mirrored_tie(tie, takes):
    if tie[0] == "same":
        return ("same", takes - 1 - tie[1])
    if tie[0] == "from":
        return tie
    return ("new", tuple(takes - 1 - p for p in tie[1]), tie[2], tie[3])


def turned_tie(tie, takes):
    tie = mirrored_tie(tie, takes)
    if tie[0] != "new":
        return tie
    return ("new", tuple(contrary(tie[1])), -tie[2], -tie[3])


class TestTold(unittest.TestCase):
    def test_all_but_the_crossings(self):
        for stitch, mark, takes, gives, ties, ends in TOLD:
            self.assertEqual(state(stitch), (mark, takes, gives, ties, ends))

    def test_some_crossings_to_the_letter(self):
        for stitch, mark, many, ties in TOLD_CROSSINGS:
            self.assertEqual(state(stitch), (mark, many, many, ties, []))

    def test_every_crossing(self):
        for first in (1, 2, 3, 4):
            for second in (1, 2, 3, 4):
                for side, sign in ((1, "c"), (-1, "q")):
                    for way, lift in (("f", 1), ("b", -1)):
                        ties = []
                        for p in range(first, first + second):
                            ties.append(("new", (p,), side, -lift))
                        for p in range(0, first):
                            ties.append(("new", (p,), side, lift))
                        mark = sign + str(first) + way + str(second)
                        many = first + second
                        self.assertEqual(state(Cross(first, second, way, side)), (mark, many, many, ties, []))

    def test_the_table_and_the_crossings_are_all_stitches(self):
        marks = [told[1] for told in TOLD]
        self.assertEqual(len(set(marks)), 31)
        self.assertEqual(sorted(marks), sorted(mark for kind, given, mark in all_made() if kind is not Cross))
        self.assertEqual(len(all_made()), 31 + 64)

    def test_marks_are_one_each(self):
        marks = [stitch.mark() for stitch in all_stitches()]
        self.assertEqual(len(set(marks)), len(marks))
        for kind, given, mark in all_made():
            self.assertEqual(kind(*given).mark(), mark)


class TestKinds(unittest.TestCase):
    def each(self):
        for stitch in all_stitches():
            yield stitch
            yield stitch.mirrored()
            yield stitch.turned()

    def whole(self, number):
        self.assertIs(type(number), int)

    def test_each_is_a_stitch(self):
        for kind, given, mark in all_made():
            self.assertIsInstance(kind(*given), Stitch)
            self.assertIs(type(kind(*given).mirrored()), kind)
            self.assertIs(type(kind(*given).turned()), kind)

    def test_numbers_and_texts(self):
        for stitch in self.each():
            self.whole(stitch.takes())
            self.whole(stitch.gives())
            self.assertIs(type(stitch.mark()), str)

    def test_ties_are_a_list_of_tuples(self):
        for stitch in self.each():
            ties = stitch.ties()
            self.assertIs(type(ties), list)
            self.assertEqual(len(ties), stitch.gives())
            for tie in ties:
                self.assertIs(type(tie), tuple)
                self.check_tie(stitch, tie)

    def check_tie(self, stitch, tie):
        if tie[0] == "same":
            self.assertEqual(len(tie), 2)
            self.check_taken(stitch, tie[1])
        elif tie[0] == "from":
            self.assertEqual(len(tie), 2)
            self.assertIn(tie[1], KEEPERS)
        else:
            word, parents, side, lift = tie
            self.assertEqual(word, "new")
            self.assertIs(type(parents), tuple)
            for p in parents:
                self.check_taken(stitch, p)
            self.whole(side)
            self.whole(lift)
            self.assertIn(side, SIDES if parents else (0,))
            self.assertIn(lift, (-1, 0, 1))

    def check_taken(self, stitch, p):
        self.whole(p)
        self.assertTrue(0 <= p < stitch.takes())

    def test_ends_are_a_list_of_tuples(self):
        for stitch in self.each():
            ends = stitch.ends()
            self.assertIs(type(ends), list)
            for end in ends:
                self.assertIs(type(end), tuple)
                self.check_taken(stitch, end[0])
                self.assertIn(end[1], ("off",) + KEEPERS)

    def test_each_taken_loop_goes_somewhere(self):
        for stitch in self.each():
            gone = [p for p, word in stitch.ends()]
            for tie in stitch.ties():
                if tie[0] == "same":
                    gone.append(tie[1])
                if tie[0] == "new":
                    gone.extend(tie[1])
            self.assertEqual(sorted(set(gone)), list(range(stitch.takes())))


class TestOwnLists(unittest.TestCase):
    def test_what_the_asker_does_to_a_list_changes_nothing(self):
        for stitch in all_stitches():
            before = state(stitch)
            mirrored, turned = state(stitch.mirrored()), state(stitch.turned())
            for told in (stitch.ties(), stitch.ends()):
                told.append(("same", 99))
                told[0] = ("from", "w")
                told.reverse()
            self.assertEqual(state(stitch), before)
            self.assertEqual(state(stitch.mirrored()), mirrored)
            self.assertEqual(state(stitch.turned()), turned)

    def test_each_list_is_a_new_one(self):
        for kind, given, mark in all_made():
            one, other = kind(*given), kind(*given)
            self.assertIsNot(one.ties(), one.ties())
            self.assertIsNot(one.ends(), one.ends())
            one.ties().clear()
            one.ends().append((7, "off"))
            self.assertEqual(state(one), state(other))

    def test_a_list_that_was_told_stays(self):
        for stitch in all_stitches():
            ties, ends = stitch.ties(), stitch.ends()
            kept = (list(ties), list(ends))
            state(stitch.mirrored())
            state(stitch.turned())
            stitch.ties().clear()
            stitch.ends().clear()
            self.assertEqual((ties, ends), kept)


class TestMirrored(unittest.TestCase):
    def test_ties(self):
        for stitch in all_stitches():
            takes = stitch.takes()
            ties = contrary([mirrored_tie(tie, takes) for tie in stitch.ties()])
            self.assertEqual(stitch.mirrored().ties(), ties, stitch.mark())

    def test_takes_gives_and_ends_stay(self):
        for stitch in all_stitches():
            self.assertEqual(state(stitch.mirrored())[1:3], state(stitch)[1:3])
            self.assertEqual(stitch.mirrored().ends(), stitch.ends())

    def test_marks(self):
        told = {"k": "k", "p": "p", "s": "s", "o": "o", "b": "b"}
        for keeper in KEEPERS:
            told["h" + keeper] = "h" + keeper
            told["f" + keeper] = "f" + keeper
        for one, other in (("k2r", "k2l"), ("k3r", "k3l"), ("k4r", "k4l"), ("p2r", "p2l"), ("p3r", "p3l"),
                           ("p4r", "p4l"), ("kx2", "px2"), ("kx3", "kx3"), ("px3", "px3"), ("kx4", "px4")):
            told[one] = other
            told[other] = one
        for kind, given, mark in all_made():
            if kind is Cross:
                other_way = "b" if mark[2] == "f" else "f"
                told[mark] = mark[0] + mark[3] + other_way + mark[1]
            self.assertEqual(kind(*given).mirrored().mark(), told[mark])

    def test_twice_is_the_stitch_itself(self):
        for stitch in all_stitches():
            self.assertEqual(state(stitch.mirrored().mirrored()), state(stitch))

    def test_the_stitch_itself_stays(self):
        for stitch in all_stitches():
            before = state(stitch)
            stitch.mirrored().ties().clear()
            stitch.mirrored()
            self.assertEqual(state(stitch), before)


class TestTurned(unittest.TestCase):
    def test_ties(self):
        for stitch in all_stitches():
            takes = stitch.takes()
            ties = contrary([turned_tie(tie, takes) for tie in stitch.ties()])
            self.assertEqual(stitch.turned().ties(), ties, stitch.mark())

    def test_takes_gives_and_ends_stay(self):
        for stitch in all_stitches():
            self.assertEqual(state(stitch.turned())[1:3], state(stitch)[1:3])
            self.assertEqual(stitch.turned().ends(), stitch.ends())

    def test_marks(self):
        told = {"k": "p", "p": "k", "s": "s", "o": "o", "b": "b"}
        for keeper in KEEPERS:
            told["h" + keeper] = "h" + keeper
            told["f" + keeper] = "f" + keeper
        for one, other in (("k2r", "p2r"), ("k3r", "p3r"), ("k4r", "p4r"), ("k2l", "p2l"), ("k3l", "p3l"),
                           ("k4l", "p4l"), ("kx2", "kx2"), ("px2", "px2"), ("kx3", "px3"), ("kx4", "kx4"),
                           ("px4", "px4")):
            told[one] = other
            told[other] = one
        for kind, given, mark in all_made():
            if kind is Cross:
                other_side = "q" if mark[0] == "c" else "c"
                told[mark] = other_side + mark[3] + mark[2] + mark[1]
            self.assertEqual(kind(*given).turned().mark(), told[mark])

    def test_twice_is_the_stitch_itself(self):
        for stitch in all_stitches():
            self.assertEqual(state(stitch.turned().turned()), state(stitch))

    def test_mirrored_and_turned_in_either_order(self):
        for stitch in all_stitches():
            self.assertEqual(state(stitch.mirrored().turned()), state(stitch.turned().mirrored()))

    def test_the_stitch_itself_stays(self):
        for stitch in all_stitches():
            before = state(stitch)
            stitch.turned().ties().clear()
            stitch.turned()
            self.assertEqual(state(stitch), before)


class TestBeyondTheBounds(unittest.TestCase):
    """The interface: what lies somewhat beyond a bound is not refused."""

    def test_larger_numbers_work_alike(self):
        for stitch in (Lean(5, "r", 1), Lean(6, "l", -1), Grow(5, 1), Grow(6, -1), Cross(5, 6, "b", 1)):
            takes = stitch.takes()
            self.assertEqual(stitch.gives(), len(stitch.ties()))
            mirrored = contrary([mirrored_tie(tie, takes) for tie in stitch.ties()])
            self.assertEqual(stitch.mirrored().ties(), mirrored)
            turned = contrary([turned_tie(tie, takes) for tie in stitch.ties()])
            self.assertEqual(stitch.turned().ties(), turned)


if __name__ == "__main__":
    unittest.main()
