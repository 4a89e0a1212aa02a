"""The refusals and their fields (the interface's errors.py)."""

import unittest

from stitchroom import errors

ALL = (
    errors.NoStitch, errors.NoSum, errors.NoPattern, errors.TooMany, errors.Miscount, errors.NotLying,
    errors.NoChart, errors.Tangle, errors.NoRow, errors.NoName, errors.NoPlace,
)


def made(kind):
    given = {errors.Miscount: (0, "needle", [0, 0, 0, 0], 1, 2), errors.Tangle: (0,)}
    return kind(*given.get(kind, ()))


class TestStanding(unittest.TestCase):
    def test_the_base_stands_under_value_error(self):
        self.assertEqual(errors.StitchError.__bases__, (ValueError,))

    def test_each_stands_under_the_base_alone(self):
        self.assertEqual(len(set(ALL)), 11)
        for kind in ALL:
            self.assertTrue(issubclass(kind, errors.StitchError), kind)
            self.assertIsNot(kind, errors.StitchError)

    def test_none_stands_under_another_one(self):
        for kind in ALL:
            for other in ALL:
                self.assertEqual(issubclass(kind, other), kind is other, (kind, other))

    def test_each_is_caught_as_the_base_and_as_value_error(self):
        for kind in ALL:
            for caught in (kind, errors.StitchError, ValueError):
                with self.assertRaises(caught):
                    raise made(kind)

    def test_each_has_words(self):
        for kind in (errors.NoSum, errors.Miscount, errors.Tangle):
            self.assertNotEqual(str(made(kind)), "")
        self.assertEqual(str(errors.NoStitch("free words")), "free words")


class TestFields(unittest.TestCase):
    def test_row_of_no_sum(self):
        self.assertIsNone(errors.NoSum().row)
        self.assertEqual(errors.NoSum(0).row, 0)
        self.assertEqual(errors.NoSum(7).row, 7)

    def test_fields_of_miscount(self):
        refusal = errors.Miscount(3, "w", [0, 1, 2, 3], 5, 4)
        self.assertEqual(refusal.row, 3)
        self.assertEqual(refusal.place, "w")
        self.assertEqual(refusal.choice, [0, 1, 2, 3])
        self.assertEqual(refusal.lies, 5)
        self.assertEqual(refusal.asked, 4)

    def test_the_choice_of_miscount_is_its_own(self):
        choice = [0, 1, 2, 3]
        refusal = errors.Miscount(3, "needle", choice, 5, 4)
        choice.append(9)
        self.assertEqual(refusal.choice, [0, 1, 2, 3])
        refusal.choice.clear()
        self.assertEqual(choice, [0, 1, 2, 3, 9])

    def test_miscount_bears_very_long_numbers(self):
        long = 10 ** 6000
        refusal = errors.Miscount(0, "end", [long, 0, 0, 0], long, 0)
        self.assertEqual(refusal.lies, long)

    def test_move_of_tangle(self):
        self.assertEqual(errors.Tangle(0).move, 0)
        self.assertEqual(errors.Tangle(12).move, 12)


if __name__ == "__main__":
    unittest.main()
