"""The fewest words: promises [2], [3] and [27]."""

import copy
import functools
import itertools
import random
import unittest

from stitchroom.prices import fewest, shortest, words
from stitchroom.reader import read
from tests.helper import all_marks, at_once, made, marked, one, ones, plain


def parts_of(text):
    return read("flat; cast 0; row " + text).things[0][1]


def tellings(row):
    """All tellings of a row of marks, as tuples: a mark, or (number, telling) for a repeat."""
    if not row:
        yield ()
    for first in range(1, len(row) + 1):
        for part in single_parts(row[:first]):
            for behind in tellings(row[first:]):
                yield (part,) + behind


def single_parts(row):
    if len(row) == 1:
        yield row[0]
    for often in range(2, len(row) + 1):
        once = row[:len(row) // often]
        if once * often == row:
            for telling in tellings(once):
                yield (often, telling)


def words_of(telling):
    return sum(1 if isinstance(part, str) else 1 + words_of(part[1]) for part in telling)


def slow_table(row):
    """The table, by trying all tellings of each stretch."""
    return [
        [min(words_of(telling) for telling in tellings(row[start:end])) for end in range(start + 1, len(row) + 1)]
        for start in range(len(row))
    ]


@functools.lru_cache(maxsize=None)
def least(row):
    """The fewest words of a row: its first part, alone, and what stands behind it."""
    if not row:
        return 0
    found = [1 + least(row[1:])]
    for once, often in itertools.product(range(1, len(row) // 2 + 1), range(2, len(row) + 1)):
        if once * often > len(row) or row[:once] * often != row[:once * often]:
            continue
        found.append(1 + least(row[:once]) + least(row[once * often:]))
    return min(found)


def least_table(row):
    return [[least(row[start:end]) for end in range(start + 1, len(row) + 1)] for start in range(len(row))]


def drawn_telling(draw, deep=3):
    """Parts, with repeats within repeats, each twice or more."""
    parts = []
    for time in range(draw.randrange(1, 4)):
        if deep == 0 or draw.randrange(2):
            parts.append(one(draw.choice(("k", "p", "k2r"))))
        else:
            parts.append(("times", plain(draw.randrange(2, 5)), drawn_telling(draw, deep - 1)))
    return parts


def drawn_row(draw):
    """A row of 1 to 60 marks: of one, of few, or repeats, perhaps with something changed."""
    many, signs = draw.randrange(1, 61), draw.choice((["k"], ["k", "p"], ["k", "p", "o"], all_marks()))
    row = [draw.choice(signs) for place in range(many)]
    if draw.randrange(3):
        once = row[:draw.randrange(1, 8)]
        row = (once * 60)[:many]
    if draw.randrange(3) == 0:
        inner = row[:draw.randrange(1, 5)] * draw.randrange(2, 5) + row[:1]
        row = (inner * 60)[:many]
    if draw.randrange(3) == 0:
        row[draw.randrange(many)] = draw.choice(all_marks())
    return tuple(row)


class Priced(unittest.TestCase):
    def is_told(self, row, table):
        """The table of a row of marks is this one, and a shortest telling keeps to it."""
        stitches = made(row)
        handed = list(stitches)
        found = fewest(stitches)
        self.assertEqual(found, table, row)
        self.assertEqual({type(part) for part in [found] + found}, {list})
        told = shortest(stitches)
        self.assertEqual(self.comes_to(told), list(row))
        self.assertEqual(words(told), table[0][-1], row)
        self.assertEqual(len(stitches), len(handed))
        self.assertTrue(all(one is other for one, other in zip(stitches, handed)))

    def comes_to(self, parts):
        """The marks of a telling; its parts are of the form that point 27 asks for."""
        self.assertIs(type(parts), list)
        self.assertTrue(parts)
        marks = []
        for part in parts:
            self.assertIs(type(part), tuple)
            if part[0] == "one":
                self.assertEqual(len(part), 2)
                marks.append(part[1].mark())
            else:
                word, often, inner = part
                self.assertEqual((word, type(often), [type(number) for number in often], often[1:]),
                                 ("times", tuple, [int] * 5, (0, 0, 0, 0)))
                self.assertGreaterEqual(often[0], 2)
                marks.extend(self.comes_to(inner) * often[0])
        return marks


class TestWords(unittest.TestCase):
    def test_by_hand(self):
        self.assertEqual(words([]), 0)
        self.assertEqual(words(ones("k")), 1)
        self.assertEqual(words(ones("k", "k", "p4l", "c2f1")), 4)
        for text, many in (("[k] 2", 2), ("[k, p] 7", 3), ("k, [p, k] a, k2r", 5), ("[[k] 2] 2", 3), ("[k] 0", 2),
                           ("[k] 1", 2), ("[k] 999999999999999999", 2), ("[k] 3a+d+7", 2), ("[k] 2, [k] 2, [k] 2", 6),
                           ("[" * 8 + "k" + "] 2" * 8, 9), ("[k, [p, [s] b, o] 3, k] 2, b", 9)):
            self.assertEqual(words(parts_of(text)), many, text)

    def test_repeats_of_none(self):
        self.assertEqual(words([("times", plain(2), [])]), 1)
        self.assertEqual(words([("times", plain(2), [("times", plain(3), [])]), one("k")]), 3)

    def test_each_stitch_is_one(self):
        for mark in all_marks():
            self.assertEqual(words(ones(mark)), 1)
            self.assertEqual(words([("times", plain(3), ones(mark, mark))]), 3)

    def test_drawn_parts(self):
        draw = random.Random(1)
        for time in range(200):
            parts = drawn_telling(draw, 5)
            before = marked(copy.deepcopy(parts))
            text = str(marked(parts))
            self.assertEqual(words(parts), text.count("'one'") + text.count("'times'"))
            self.assertEqual(marked(parts), before)


class TestByHand(Priced):
    def test_one(self):
        for mark in all_marks():
            self.is_told([mark], [[1]])

    def test_by_names_of_the_interface(self):
        self.assertEqual(fewest(stitches=made("kp")), [[1, 2], [1]])
        self.assertEqual(words(parts=shortest(stitches=made("kp"))), 2)

    def test_two(self):
        self.is_told("kp", [[1, 2], [1]])
        self.is_told("kk", [[1, 2], [1]])

    def test_of_one_mark(self):
        self.is_told("kkk", [[1, 2, 2], [1, 2], [1]])
        self.is_told("kkkk", [[1, 2, 2, 2], [1, 2, 2], [1, 2], [1]])
        for many in (5, 7, 12, 36, 59, 60):
            self.is_told("k" * many, [([1] + [2] * many)[:many - place] for place in range(many)])

    def test_all_different(self):
        row = all_marks()[:60]
        self.is_told(row, [list(range(1, 61 - place)) for place in range(60)])

    def test_repeats(self):
        self.assertEqual(fewest(made("kpkp")), [[1, 2, 3, 3], [1, 2, 3], [1, 2], [1]])
        for text, many in (("kp" * 30, 3), ("kkp" * 20, 4), ("kkkp" * 15, 4), ("kkkppp" * 10, 5), ("kp" * 29 + "k", 4),
                           ("k" * 30 + "p" * 30, 4), ("kpkps" * 12, 5), ("kkkkp" * 5 + "s", 5), ("sskpkpkp" * 2, 6),
                           (("kkkp" * 3 + "s") * 4, 6), ("kpkkpkkpk", 4), ("kpkpkkpkpk", 5), ("kkpkkpk", 5)):
            self.assertEqual(fewest(made(text))[0][-1], many, text)
            self.is_told(text, least_table(tuple(text)))

    def test_marks_and_not_objects_are_alike(self):
        row = made(["k2r", "o", "k2r", "o", "k2r", "o"])
        self.assertEqual(fewest(row)[0], [1, 2, 3, 3, 4, 3])
        self.assertEqual(marked(shortest(row)), [("times", (3, 0, 0, 0, 0), [("one", "k2r"), ("one", "o")])])
        self.assertEqual(marked(shortest(made(["k2r", "k2l", "k2r"]))), marked(ones("k2r", "k2l", "k2r")))


class TestAllTellings(Priced):
    def test_all_short_rows_of_two_marks(self):
        for many in range(1, 9):
            for row in itertools.product("kp", repeat=many):
                if row[0] == "k":
                    self.is_told(row, slow_table(row))

    def test_short_rows_of_three_marks(self):
        for many in range(1, 7):
            for row in itertools.product("kpo", repeat=many):
                if row[0] == "k":
                    self.is_told(row, slow_table(row))

    def test_rows_of_one_mark(self):
        for many in range(1, 12):
            self.is_told("k" * many, slow_table(("k",) * many))

    def test_drawn_rows_of_ten(self):
        draw = random.Random(10)
        for time in range(30):
            row = drawn_row(draw)[:10]
            self.is_told(row, slow_table(row))


class TestDrawn(Priced):
    def test_drawn_rows(self):
        draw = random.Random(60)
        for time in range(80):
            row = drawn_row(draw)
            with at_once():
                self.is_told(row, least_table(row))
            least.cache_clear()

    def test_no_drawn_telling_has_fewer(self):
        draw = random.Random(7)
        seen = 0
        for time in range(600):
            parts = drawn_telling(draw)
            row = self.comes_to(parts)
            if len(row) <= 60:
                seen += 1
                self.assertLessEqual(fewest(made(row))[0][-1], words(parts))
        self.assertGreater(seen, 300)

    def test_sixty_at_once(self):
        for row in (["k"] * 60, ["k", "p"] * 30, all_marks()[:60], ["k", "k", "p"] * 20, (["k"] * 9 + ["p"]) * 6):
            with at_once():
                for time in range(3):
                    self.assertEqual(words(shortest(made(row))), fewest(made(row))[0][-1])


class TestOwn(Priced):
    def test_tables(self):
        row = made("kpkpkk")
        table = fewest(row)
        before = copy.deepcopy(table)
        for column in table[1:]:
            column.append("spoilt")
        self.assertEqual(table[0], before[0])
        table.clear()
        self.assertEqual(fewest(row), before)
        table = fewest(row)
        row.clear()
        self.assertEqual(table, before)

    def test_tellings(self):
        row = made("kpkpkkk")
        told = shortest(row)
        before = marked(copy.deepcopy(told))
        for part in told:
            if part[0] == "times":
                part[2].append("spoilt")
        told.append("spoilt")
        self.assertEqual(marked(shortest(row)), before)
        self.assertEqual(marked(row), list("kpkpkkk"))
        for alone in ("k", "kp"):
            row = made(alone)
            shortest(row).append("spoilt")
            self.assertEqual(marked(row), list(alone))

    def test_lists_within_a_telling_are_apart(self):
        told = shortest(made("kkkpkkks" + "kkkpkkks"))
        self.assertEqual(words(told), 7)
        inner = [part for part in told[0][2] if part[0] == "times"]
        inner[0][2].append("spoilt")
        self.assertEqual(marked(inner[1]), ("times", (3, 0, 0, 0, 0), [("one", "k")]))


if __name__ == "__main__":
    unittest.main()
