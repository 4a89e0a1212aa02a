"""A pattern as text: promises [2], [8] and [10]."""

import unittest

from stitchroom.patterns import Pattern
from stitchroom.writer import parts_text, shown
from tests.helper import NOUGHT, all_marks, marked, one, ones, plain, told_patterns

EXAMPLE = (
    "flat; cast 2a+3; row k, [p, k] a, k2r; 3 times (row rest [k]; row p turn; row k); "
    "a+1 times (row p, rest [p], s); row rest [b]"
)


def of_row(row, way="flat"):
    return shown(Pattern(way, plain(1), [row]))


class TestShown(unittest.TestCase):
    def test_the_example_of_the_document(self):
        way, cast, items, text = told_patterns()[0]
        self.assertEqual(shown(Pattern(way, cast, items)), EXAMPLE)

    def test_each_told_pattern(self):
        for way, cast, items, text in told_patterns():
            self.assertEqual(shown(Pattern(way, cast, items)), text)

    def test_every_stitch(self):
        for mark in all_marks():
            self.assertEqual(of_row(("row", ones(mark), False)), f"flat; cast 1; row {mark}")

    def test_ways_and_sums(self):
        items = [("row", ones("k"), False)]
        self.assertEqual(shown(Pattern("round", (0, 1, 2, 0, 0), items)), "round; cast a+2b; row k")
        self.assertEqual(shown(Pattern("flat", plain(10 ** 59), items)), f"flat; cast {10 ** 59}; row k")

    def test_several_items(self):
        items = [("row", ones("k"), False), ("row", ones("p", "s"), False)]
        self.assertEqual(shown(Pattern("round", plain(1), items)), "round; cast 1; row k; row p, s")

    def test_turn(self):
        self.assertEqual(of_row(("row", ones("k", "p"), True)), "flat; cast 1; row k, p turn")
        inner = ("times", (0, 0, 0, 0, 2), ones("k"))
        self.assertEqual(of_row(("row", [inner], True)), "flat; cast 1; row [k] 2d turn")

    def test_rest_and_where_it_stands(self):
        rest = ones("p", "s")
        for parts, more, text in (
            ([], [], "row rest [p, s]"),
            (ones("k"), [], "row k, rest [p, s]"),
            ([], ones("b"), "row rest [p, s], b"),
            (ones("k", "o"), ones("b", "k"), "row k, o, rest [p, s], b, k"),
            ([("times", plain(2), ones("k"))], [("times", NOUGHT, ones("b"))], "row [k] 2, rest [p, s], [b] 0"),
        ):
            self.assertEqual(of_row(("row", parts, False, rest, more)), "flat; cast 1; " + text)

    def test_brackets_within_rest(self):
        rest = [("times", plain(2), [one("k"), ("times", (0, 1, 0, 0, 0), ones("p"))])]
        self.assertEqual(of_row(("row", [], False, rest, [])), "flat; cast 1; row rest [[k, [p] a] 2]")

    def test_blocks_within_blocks(self):
        block = ("row", ones("k"), False)
        text = "row k"
        for number in range(1, 9):
            block = ("block", (number, 0, 0, 1, 0), [block, ("row", ones("p"), False)])
            text = f"c+{number} times ({text}; row p)"
            self.assertEqual(shown(Pattern("flat", NOUGHT, [block])), "flat; cast 0; " + text)

    def test_told_again_and_behind_another_one(self):
        patterns = [Pattern(way, cast, items) for way, cast, items, text in told_patterns()]
        texts = [text for way, cast, items, text in told_patterns()]
        for turn in range(2):
            self.assertEqual([shown(pattern) for pattern in patterns], texts)
            self.assertEqual([shown(pattern) for pattern in reversed(patterns)], texts[::-1])

    def test_the_pattern_stays(self):
        for way, cast, items, text in told_patterns():
            pattern = Pattern(way, cast, items)
            shown(pattern)
            self.assertEqual((pattern.way, pattern.cast, pattern.things), (way, cast, items))


class TestParts(unittest.TestCase):
    def test_to_the_letter(self):
        for parts, text in (
            (ones("k"), "k"),
            (ones("k", "p2r", "hw"), "k, p2r, hw"),
            ([("times", plain(2), ones("k"))], "[k] 2"),
            ([one("s"), ("times", (1, 1, 0, 0, 0), ones("k", "p")), one("b")], "s, [k, p] a+1, b"),
            ([("times", plain(3), [("times", NOUGHT, ones("k")), one("o")])], "[[k] 0, o] 3"),
            (ones(*all_marks()), ", ".join(all_marks())),
            ([], ""),
        ):
            self.assertEqual(parts_text(parts), text)
            self.assertEqual(parts_text(parts), text)

    def test_the_parts_of_a_row(self):
        for way, cast, items, text in told_patterns():
            for item in items:
                if item[0] == "row" and len(item) == 3:
                    self.assertIn("row " + parts_text(item[1]), text)

    def test_the_parts_stay(self):
        parts = [one("s"), ("times", (1, 1, 0, 0, 0), ones("k", "p"))]
        before = marked(parts)
        parts_text(parts)
        self.assertEqual(marked(parts), before)


if __name__ == "__main__":
    unittest.main()
