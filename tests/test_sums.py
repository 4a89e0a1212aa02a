"""Sums of the four sizes: promises [2] and [8]."""

import itertools
import unittest

from stitchroom.errors import NoSum
from stitchroom.sums import is_sized, product, sum_text, total, worth
from tests.helper import NOUGHT, plain

GREAT = 987654321098765432109876543210987654321098765432109876543210
VAST = 10 ** 899 + 7

PLAIN = [plain(number) for number in (0, 1, 2, 17, GREAT)]
SIZED = [
    (0, 1, 0, 0, 0), (0, 0, 1, 0, 0), (0, 0, 0, 1, 0), (0, 0, 0, 0, 1), (3, 2, 0, 0, 0), (1, 1, 1, 1, 1),
    (0, 0, 5, 0, 12), (GREAT, 0, 0, GREAT, 4), (0, GREAT + 1, 0, 0, 0), (9, 8, 7, 6, 5),
]
SUMS = PLAIN + SIZED
CHOICES = [
    [0, 0, 0, 0], [1, 0, 0, 0], [0, 1, 0, 0], [0, 0, 1, 0], [0, 0, 0, 1], [1, 2, 3, 4], [7, 7, 7, 7],
    [10 ** 9, 0, 10 ** 18, 3], [GREAT, GREAT + 2, 1, GREAT * GREAT],
]


class Whole(unittest.TestCase):
    def check_number(self, number):
        self.assertIs(type(number), int)

    def check_sum(self, told):
        self.assertIs(type(told), tuple)
        self.assertEqual(len(told), 5)
        for number in told:
            self.check_number(number)


class TestTotal(Whole):
    def test_by_hand(self):
        for one, other, both in (
            (NOUGHT, NOUGHT, NOUGHT),
            ((3, 2, 0, 0, 0), (1, 0, 0, 0, 4), (4, 2, 0, 0, 4)),
            ((1, 2, 3, 4, 5), (10, 20, 30, 40, 50), (11, 22, 33, 44, 55)),
            ((0, 1, 0, 0, 0), (0, 0, 1, 0, 0), (0, 1, 1, 0, 0)),
            ((GREAT, 0, 0, 0, 1), (1, 0, 0, GREAT, 1), (GREAT + 1, 0, 0, GREAT, 2)),
            ((VAST, VAST, 0, 0, 0), (0, VAST, 0, 0, 9), (VAST, 2 * VAST, 0, 0, 9)),
        ):
            self.assertEqual(total(one, other), both)
            self.assertEqual(total(other, one), both)

    def test_number_by_number(self):
        for one, other in itertools.product(SUMS, SUMS):
            told = total(one, other)
            self.check_sum(told)
            for place in range(5):
                self.assertEqual(told[place], one[place] + other[place])

    def test_worth_of_the_total(self):
        for one, other in itertools.product(SUMS, SUMS):
            for choice in CHOICES:
                self.assertEqual(worth(total(one, other), choice), worth(one, choice) + worth(other, choice))


class TestWorth(Whole):
    def test_by_hand(self):
        for one, choice, number in (
            (NOUGHT, [5, 6, 7, 8], 0),
            (plain(4), [5, 6, 7, 8], 4),
            ((0, 1, 0, 0, 0), [5, 6, 7, 8], 5),
            ((0, 0, 1, 0, 0), [5, 6, 7, 8], 6),
            ((0, 0, 0, 1, 0), [5, 6, 7, 8], 7),
            ((0, 0, 0, 0, 1), [5, 6, 7, 8], 8),
            ((3, 2, 0, 0, 0), [0, 9, 9, 9], 3),
            ((3, 2, 0, 0, 0), [4, 9, 9, 9], 11),
            ((1, 2, 3, 4, 5), [10, 100, 1000, 10000], 54321),
            ((0, 0, 0, 0, GREAT), [0, 0, 0, 10], GREAT * 10),
            ((1, 1, 0, 0, 0), [GREAT, 0, 0, 0], GREAT + 1),
        ):
            self.assertEqual(worth(one, choice), number)

    def test_added_up(self):
        for one, choice in itertools.product(SUMS, CHOICES):
            told = worth(one, choice)
            self.check_number(told)
            number, a, b, c, d = one
            by_hand = number + a * choice[0] + b * choice[1] + c * choice[2] + d * choice[3]
            self.assertEqual(told, by_hand)

    def test_the_choice_stays(self):
        choice = [4, 3, 2, 1]
        worth((1, 2, 3, 4, 5), choice)
        self.assertEqual(choice, [4, 3, 2, 1])


class TestSized(unittest.TestCase):
    def test_plain_ones(self):
        for one in PLAIN:
            self.assertIs(is_sized(one), False)

    def test_sized_ones(self):
        for one in SIZED:
            self.assertIs(is_sized(one), True)

    def test_each_size(self):
        for place in range(1, 5):
            for number in (1, 2, GREAT):
                numbers = [0, 0, 0, 0, 0]
                numbers[place] = number
                self.assertIs(is_sized(tuple(numbers)), True)


class TestProduct(Whole):
    def test_by_hand(self):
        for one, other, told in (
            (plain(3), plain(4), plain(12)),
            (plain(0), plain(4), NOUGHT),
            (plain(1), (1, 2, 3, 4, 5), (1, 2, 3, 4, 5)),
            (plain(3), (1, 2, 0, 4, 5), (3, 6, 0, 12, 15)),
            (plain(0), (1, 2, 3, 4, 5), NOUGHT),
            (plain(GREAT), (0, 0, 0, 0, GREAT), (0, 0, 0, 0, GREAT * GREAT)),
            (plain(10), (0, VAST, 0, 0, 0), (0, VAST * 10, 0, 0, 0)),
        ):
            self.assertEqual(product(one, other), told)
            self.assertEqual(product(other, one), told)

    def test_worth_of_the_product(self):
        for one, other in itertools.product(PLAIN, SUMS):
            for told in (product(one, other), product(other, one)):
                self.check_sum(told)
                for choice in CHOICES:
                    self.assertEqual(worth(told, choice), worth(one, choice) * worth(other, choice))

    def test_two_sized_ones_are_refused(self):
        for one, other in itertools.product(SIZED, SIZED):
            with self.assertRaises(NoSum) as refusal:
                product(one, other)
            self.assertIsNone(refusal.exception.row)


class TestText(unittest.TestCase):
    def test_to_the_letter(self):
        for one, text in (
            ((3, 2, 0, 0, 1), "2a+d+3"),
            ((0, 0, 1, 0, 0), "b"),
            (NOUGHT, "0"),
            (plain(1), "1"),
            (plain(2), "2"),
            (plain(10), "10"),
            (plain(GREAT), str(GREAT)),
            ((0, 1, 0, 0, 0), "a"),
            ((0, 0, 0, 1, 0), "c"),
            ((0, 0, 0, 0, 1), "d"),
            ((1, 1, 0, 0, 0), "a+1"),
            ((0, 1, 1, 1, 1), "a+b+c+d"),
            ((1, 1, 1, 1, 1), "a+b+c+d+1"),
            ((5, 4, 3, 2, 1), "4a+3b+2c+d+5"),
            ((0, 0, 10, 0, 11), "10b+11d"),
            ((7, 0, 0, 2, 0), "2c+7"),
            ((0, GREAT, 0, 1, 0), f"{GREAT}a+c"),
            ((GREAT, 0, GREAT + 1, 0, 0), f"{GREAT + 1}b+{GREAT}"),
            ((VAST, 0, 0, 0, VAST), f"{VAST}d+{VAST}"),
        ):
            self.assertEqual(sum_text(one), text)
            self.assertIs(type(sum_text(one)), str)

    def test_different_sums_have_different_texts(self):
        texts = {}
        for one in itertools.product((0, 1, 2, 11, 12, 21, 111), repeat=5):
            text = sum_text(one)
            self.assertNotIn(text, texts, (one, texts.get(text)))
            texts[text] = one
        self.assertEqual(len(texts), 7 ** 5)

    def test_told_again_it_is_the_same(self):
        before = [sum_text(one) for one in SUMS]
        self.assertEqual([sum_text(one) for one in SUMS], before)


if __name__ == "__main__":
    unittest.main()
