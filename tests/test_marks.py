"""The stitch of a mark: promises [2] and [7]."""

import itertools
import unittest

from stitchroom.errors import NoStitch
from stitchroom.marks import stitch
from stitchroom.stitches import Plain, Stitch
from tests.helper import all_made, all_marks, all_stitches, state

# All signs that stand in a mark, and neighbours of these that stand in none.
SIGNS = "kpsobhfwxyzcqrl1234" + "05 \nK"
STRANGE = "\t\r\0,;+-._~ A\u00b2\u0662\uff12\u212a\u017f\u3000"


class TestStitch(unittest.TestCase):
    def refused(self, thing):
        with self.assertRaises(NoStitch, msg=repr(thing)):
            stitch(thing)

    def test_every_mark(self):
        for kind, given, mark in all_made():
            told = stitch(mark)
            self.assertIsInstance(told, Stitch)
            self.assertIs(type(told), kind)
            self.assertEqual(told.mark(), mark)
            self.assertEqual(state(told), state(kind(*given)))

    def test_there_and_back_again(self):
        for made in all_stitches():
            self.assertEqual(state(stitch(made.mark())), state(made))
            self.assertEqual(state(stitch(made.mirrored().mark())), state(made.mirrored()))
            self.assertEqual(state(stitch(made.turned().mark())), state(made.turned()))

    def test_each_told_stitch_is_whole_by_itself(self):
        one, other = stitch("c2f1"), stitch("c2f1")
        one.ties().clear()
        self.assertEqual(state(one), state(other))

    def test_of_all_short_texts_just_the_marks(self):
        marks = set(all_marks())
        let_by = set()
        for size in (0, 1, 2, 3, 4):
            for signs in itertools.product(SIGNS, repeat=size):
                text = "".join(signs)
                try:
                    stitch(text)
                except NoStitch:
                    continue
                let_by.add(text)
        self.assertEqual(let_by, marks)

    def test_a_text_without_signs(self):
        self.refused("")

    def test_a_sign_left_out_put_in_or_exchanged(self):
        marks = set(all_marks())
        for mark in all_marks():
            for place in range(len(mark) + 1):
                changed = [mark[:place] + mark[place + 1:]]
                for sign in SIGNS + STRANGE:
                    changed.append(mark[:place] + sign + mark[place:])
                    changed.append(mark[:place] + sign + mark[place + 1:])
                for text in changed:
                    if text not in marks:
                        self.refused(text)

    def test_blanks_and_row_ends_beside(self):
        for mark in all_marks():
            for beside in (" ", "\n", "\t", "\r\n", "  "):
                self.refused(mark + beside)
                self.refused(beside + mark)
                self.refused(beside + mark + beside)

    def test_twice(self):
        for mark in all_marks():
            self.refused(mark + mark)
            self.refused(mark + " " + mark)
            self.refused(mark + ", " + mark)

    def test_numbers_out_of_their_bounds(self):
        for text in ("k0r", "k1r", "k5r", "p9l", "k1l", "p0l", "k10r", "p22l", "k-2r", "kx0", "kx1", "kx5", "px9",
                     "kx10", "px22", "c0f1", "c1f0", "c5f1", "c1f5", "q0b0", "q9b1", "q1b9", "c10f1", "q1b10"):
            self.refused(text)

    def test_noughts_ahead(self):
        for text in ("k02r", "p04l", "kx02", "px04", "c01f1", "c1f01", "q02b03"):
            self.refused(text)

    def test_capital_letters(self):
        for mark in all_marks():
            self.refused(mark.upper())
            self.refused(mark.capitalize())

    def test_mixed_up(self):
        for text in ("h", "f", "c", "q", "x", "w", "ha", "fv", "hwx", "wh", "zf", "sw", "s1", "o2", "b1", "kk", "k2",
                     "kr", "2r", "k2f", "kr2", "k2x", "x2k", "c2r1", "k2f1", "c21f", "cf21", "c2f", "f2c1", "k2r2"):
            self.refused(text)

    def test_things_of_other_kinds(self):
        for thing in (None, True, False, 0, 1, -1, 2, 10 ** 800, [], ["k"], (), ("k",), {}, {"k": 1}, Plain(1),
                      [["k"]], b"k", 1.5, {"k"}, object(), Plain):
            self.refused(thing)

    def test_every_stitch_is_no_mark(self):
        for made in all_stitches():
            self.refused(made)
            self.refused([made.mark()])
            self.refused((made.mark(),))

    def test_what_cannot_be_written_is_refused_likewise(self):
        deep = []
        for turn in range(100000):
            deep = [deep]
        self.refused_unwritten(deep)
        self.refused_unwritten(10 ** 6000)

    def refused_unwritten(self, thing):
        with self.assertRaises(NoStitch):
            stitch(thing)

    def test_what_is_handed_in_stays(self):
        marks, numbers = ["k", ["p"]], {"k": [1]}
        self.refused(marks)
        self.refused(numbers)
        self.assertEqual(marks, ["k", ["p"]])
        self.assertEqual(numbers, {"k": [1]})


class TestAlike(unittest.TestCase):
    def test_the_same_mark_the_same_answers(self):
        for one in all_stitches():
            for other in all_stitches():
                self.assertEqual(state(one)[1:] == state(other)[1:], one.mark() == other.mark())


if __name__ == "__main__":
    unittest.main()
