"""Patterns and their fields: promises [2] and [9]."""

import unittest

from stitchroom.patterns import Pattern
from stitchroom.writer import shown
from tests.helper import marked, ones, plain, told_patterns


class TestPattern(unittest.TestCase):
    def test_the_fields_are_what_was_handed_in(self):
        for way, cast, items, text in told_patterns():
            pattern = Pattern(way, cast, items)
            self.assertEqual(pattern.way, way)
            self.assertEqual(pattern.cast, cast)
            self.assertIs(type(pattern.cast), tuple)
            self.assertIs(type(pattern.things), list)
            self.assertEqual(pattern.things, items)

    def test_arguments_by_their_names(self):
        pattern = Pattern(items=[("row", ones("k"), True)], cast=plain(2), way="flat")
        self.assertEqual(marked([pattern.way, pattern.cast, pattern.things]),
                         ["flat", plain(2), [("row", [("one", "k")], True)]])

    def test_the_list_is_its_own(self):
        for way, cast, items, text in told_patterns():
            pattern = Pattern(way, cast, items)
            self.assertIsNot(pattern.things, items)
            before = marked(items)
            items.append(("row", ones("s"), False))
            self.assertEqual(marked(pattern.things), before)
            items[0] = ("row", ones("b"), False)
            items.reverse()
            self.assertEqual(marked(pattern.things), before)
            items.clear()
            self.assertEqual(marked(pattern.things), before)
            self.assertEqual(shown(pattern), text)

    def test_lists_further_within_are_its_own(self):
        parts, rest, more, inner = ones("k"), ones("p"), ones("s"), ones("b")
        rows = [("row", parts, False, rest, more), ("row", [("times", plain(2), inner)], True)]
        pattern = Pattern("flat", plain(1), [("block", plain(3), rows)])
        text = shown(pattern)
        for changed in (parts, rest, more, inner, rows):
            changed.append(changed[0])
            self.assertEqual(shown(pattern), text)

    def test_what_is_handed_in_stays(self):
        for way, cast, items, text in told_patterns():
            before = marked(items)
            pattern = Pattern(way, cast, items)
            pattern.things.clear()
            self.assertEqual(marked(items), before)

    def test_two_patterns_of_one_list(self):
        items = [("row", ones("k"), False)]
        one, other = Pattern("flat", plain(1), items), Pattern("round", plain(1), items)
        one.things.append(("row", ones("p"), False))
        self.assertEqual(marked(other.things), [("row", [("one", "k")], False)])


if __name__ == "__main__":
    unittest.main()
