"""The pattern of a text: promises [2], [9] and [11]."""

import itertools
import random
import re
import unittest

from stitchroom.errors import NoPattern
from stitchroom.patterns import Pattern
from stitchroom.reader import read
from stitchroom.stitches import Plain
from stitchroom.sums import sum_text
from stitchroom.writer import shown
from tests.helper import NOUGHT, all_marks, marked, one, ones, plain, told_patterns

# All signs that stand in a text, and neighbours of these that stand in none.
SIGNS = "abcdfhklmopqrstuwxyz0123459+,; []()"
STRANGE = "AKe.-_*{}\n\t\r\0\u00a0\u00b2\u0662\uff11\uff1b\u212a"


def sum_form(plain_needed):
    """What a sum looks like; where it is asked for, with a plain number that is not 0."""
    forms = [] if plain_needed else ["0"]
    terms = [f"(?:[2-9]|[1-9][0-9]{{1,17}})?{size}" for size in "abcd"] + ["[1-9][0-9]{0,17}"]
    for chosen in itertools.product((True, False), repeat=5):
        if chosen[4] or (any(chosen) and not plain_needed):
            forms.append("[+]".join(term for term, there in zip(terms, chosen) if there))
    return "(?:" + "|".join(forms) + ")"


SUM = sum_form(False)
BLOCK_SUM = sum_form(True)
MARK = "[kpsob]|[kp][234][rl]|[kp]x[234]|[cq][1-4][fb][1-4]|[hf][wxyz]"
PART = f"(?:{MARK}|\x01)"
PARTS = f"{PART}(?:, {PART})*"
TIMES = re.compile(rf"\[{PARTS}\] {SUM}(?![0-9a-z+])")
REST = rf"rest \[{PARTS}\]"
ITEM = f"(?:row (?:{PARTS}(?: turn)?|(?:{PARTS}, )?{REST}(?:, {PARTS})?)|\x02)"
ITEMS = f"{ITEM}(?:; {ITEM})*"
BLOCK = re.compile(rf"(?<![0-9a-z+]){BLOCK_SUM} times \({ITEMS}\)")
WHOLE = re.compile(f"(?:flat|round); cast {SUM}; {ITEMS}")


def depth_of(text):
    depth = most = 0
    for sign in text:
        depth += (sign in "[(") - (sign in ")]")
        most = max(most, depth)
    return most


def all_put(form, sign, text):
    """The text, with the sign in the place of all that has the form, as long as there is some."""
    found = 1
    while found:
        text, found = form.subn(sign, text)
    return text


def is_told(text):
    """Whether points 9 to 11 tell of a pattern with this text, found in another way than the program's."""
    if "\x01" in text or "\x02" in text or len(text) > 3000 or depth_of(text) > 8:
        return False
    if text.startswith("round") and " turn" in text:
        return False
    return WHOLE.fullmatch(all_put(BLOCK, "\x02", all_put(TIMES, "\x01", text))) is not None


class Reading(unittest.TestCase):
    def refused(self, thing):
        with self.assertRaises(NoPattern, msg=repr(thing)[:200]):
            read(thing)

    def is_read(self, text):
        self.assertEqual(shown(read(text)), text)

    def check(self, text):
        """The text is refused, or it is the text of what is read of it, just as the document tells."""
        try:
            again = shown(read(text))
        except NoPattern:
            self.assertFalse(is_told(text), text)
            return False
        self.assertEqual(again, text)
        self.assertTrue(is_told(text), text)
        return True


class TestRead(Reading):
    def test_told_patterns(self):
        for way, cast, items, text in told_patterns():
            pattern = read(text)
            self.assertIs(type(pattern), Pattern)
            self.assertEqual(pattern.way, way)
            self.assertEqual(pattern.cast, cast)
            self.assertEqual(marked(pattern.things), marked(items))
            self.assertEqual(shown(pattern), text)
            self.assertTrue(is_told(text))

    def test_kinds(self):
        for way, cast, items, text in told_patterns():
            pattern = read(text)
            self.check_sum(pattern.cast)
            self.check_items(pattern.things)

    def check_sum(self, told):
        self.assertIs(type(told), tuple)
        self.assertEqual([type(number) for number in told], [int] * 5)

    def check_items(self, items):
        self.assertIs(type(items), list)
        for item in items:
            self.assertIs(type(item), tuple)
            if item[0] == "block":
                self.assertEqual(len(item), 3)
                self.check_sum(item[1])
                self.check_items(item[2])
            else:
                self.assertIn(len(item), (3, 5))
                self.assertIs(type(item[2]), bool)
                for parts in (item[1],) + item[3:]:
                    self.check_parts(parts)

    def check_parts(self, parts):
        self.assertIs(type(parts), list)
        for part in parts:
            self.assertIs(type(part), tuple)
            if part[0] == "times":
                self.assertEqual(len(part), 3)
                self.check_sum(part[1])
                self.check_parts(part[2])
            else:
                self.assertEqual(len(part), 2)

    def test_every_stitch(self):
        for mark in all_marks():
            pattern = read(f"flat; cast 1; row {mark}, [{mark}] 2, rest [{mark}]")
            told = ("one", mark)
            self.assertEqual(marked(pattern.things),
                             [("row", [told, ("times", plain(2), [told])], False, [told], [])])
            self.assertIs(type(pattern.things[0][1][0][1]), type(one(mark)[1]))

    def test_sums(self):
        for told in itertools.product((0, 1, 2, 10), repeat=5):
            text = sum_text(told)
            self.assertEqual(read(f"round; cast {text}; row k").cast, told)
            self.assertEqual(read(f"flat; cast 0; row [k] {text} turn").things[0][1][0][1], told)
            if told[0] > 0:
                self.assertEqual(read(f"flat; cast 0; {text} times (row k)").things[0][1], told)
            else:
                self.refused(f"flat; cast 0; {text} times (row k)")

    def test_each_pattern_has_lists_of_its_own(self):
        for way, cast, items, text in told_patterns():
            first, second = read(text), read(text)
            first.things[0][1 if first.things[0][0] == "row" else 2].append(one("k"))
            first.things.append(first.things[0])
            self.assertEqual(marked(second.things), marked(items))
            self.assertEqual(shown(second), text)
            self.is_read(text)

    def test_rest_alone_takes_no_turn_and_a_bare_row_no_rest(self):
        self.assertEqual(marked(read("flat; cast 0; row k turn; row rest [k]; row k").things), [
            ("row", [("one", "k")], True),
            ("row", [], False, [("one", "k")], []),
            ("row", [("one", "k")], False),
        ])

    def test_what_does_not_add_up_is_read_all_the_same(self):
        for text in ("flat; cast 5; row k", "round; cast 0; row rest [o]", "flat; cast a; row [[k] a] b",
                     "flat; cast 0; row rest [[k] a]", "round; cast 0; 999999999999999999 times (row [k] 0)"):
            self.is_read(text)


class TestGrown(Reading):
    """Patterns grown by a fixed row of numbers, there and back again."""

    def a_sum(self, numbers, least=0):
        rest = [numbers.choice((0, 0, 1, 2, 30, 10 ** 17)) for size in range(4)]
        return (max(least, numbers.choice((0, 1, 2, 45, 10 ** 18 - 1))), *rest)

    def parts(self, numbers, depth):
        return [self.part(numbers, depth) for turn in range(numbers.randint(1, 3))]

    def part(self, numbers, depth):
        if depth == 0 or numbers.randint(0, 2):
            return one(numbers.choice(all_marks()))
        return ("times", self.a_sum(numbers), self.parts(numbers, depth - 1))

    def row(self, numbers, way, depth):
        if depth == 0 or numbers.randint(0, 1):
            return ("row", self.parts(numbers, depth), way == "flat" and numbers.randint(0, 1) == 1)
        ahead, behind = [self.parts(numbers, depth) if numbers.randint(0, 1) else [] for turn in range(2)]
        return ("row", ahead, False, self.parts(numbers, depth - 1), behind)

    def items(self, numbers, way, depth):
        return [self.item(numbers, way, depth) for turn in range(numbers.randint(1, 2))]

    def item(self, numbers, way, depth):
        if depth == 0 or numbers.randint(0, 1):
            return self.row(numbers, way, depth)
        return ("block", self.a_sum(numbers, 1), self.items(numbers, way, depth - 1))

    def test_there_and_back_again(self):
        numbers = random.Random(11)
        short = 0
        for turn in range(600):
            way = numbers.choice(("flat", "round"))
            pattern = Pattern(way, self.a_sum(numbers), self.items(numbers, way, numbers.randint(0, 8)))
            text = shown(pattern)
            if len(text) > 3000:
                self.refused(text)
                continue
            short += 1
            again = read(text)
            self.assertEqual((again.way, again.cast), (pattern.way, pattern.cast))
            self.assertEqual(marked(again.things), marked(pattern.things))
            self.assertEqual(shown(again), text)
        self.assertGreater(short, 300)


class TestChangedTexts(Reading):
    TEXTS = (
        "flat; cast 2a+3; row k, [p] a, k2r turn; 3 times (row rest [k])",
        "round; cast 0; 10d+1 times (row s, rest [p], hw; row q1b4)",
        "flat; cast b+2c; 1 times (a+2 times (row [[kx2] 0, o] 12 turn); row fz)",
        "round; cast 19; row [c4f2, b] 3, rest [[k] 2, p3l]",
    )

    def test_one_sign_left_out_put_in_or_exchanged(self):
        let_by = 0
        for text in self.TEXTS:
            self.is_read(text)
            for place in range(len(text) + 1):
                let_by += self.check(text[:place] + text[place + 1:])
                for sign in SIGNS + STRANGE:
                    let_by += self.check(text[:place] + sign + text[place:])
                    let_by += self.check(text[:place] + sign + text[place + 1:])
        # Another figure, mark or size makes another pattern, so not all of them are to be refused.
        self.assertGreater(let_by, 300)

    def test_two_signs_exchanged_or_a_stretch_told_twice(self):
        for text in self.TEXTS:
            for place in range(len(text) - 1):
                self.check(text[:place] + text[place + 1] + text[place] + text[place + 2:])
                for end in range(place + 1, min(place + 20, len(text))):
                    self.check(text[:end] + text[place:end] + text[end:])
                    self.check(text[:place] + text[end:])

    def test_every_text_of_a_few_pieces(self):
        pieces = ("row ", "k", ", ", "[", "]", " ", "2", "a", "+", " turn", "rest ", "; ", "1 times (", ")")
        let_by = 0
        for many in range(5):
            for chosen in itertools.product(pieces, repeat=many):
                for ahead in ("flat; cast 0; row k", "round; cast a; "):
                    let_by += self.check(ahead + "".join(chosen))
        self.assertGreater(let_by, 10)


class TestRefused(Reading):
    def all_refused(self, texts):
        for text in texts:
            self.refused(text)
            self.assertFalse(is_told(text), text)

    def test_things_of_other_kinds(self):
        deep = []
        for turn in range(100000):
            deep = [deep]
        text = "flat; cast 1; row k"
        for thing in (None, True, False, 0, 1, -1, 10 ** 800, [], [text], (), (text,), {}, {text: text}, Plain(1),
                      read(text), Pattern("flat", plain(1), [("row", ones("k"), False)]), list(text),
                      text.encode(), 1.5, {text}, object(), Pattern, ("row", ones("k"), False)):
            self.refused(thing)
        with self.assertRaises(NoPattern):
            read(deep)

    def test_what_is_handed_in_stays(self):
        texts, numbers = ["flat; cast 1; row k"], {"k": [1]}
        self.refused(texts)
        self.refused(numbers)
        self.assertEqual((texts, numbers), (["flat; cast 1; row k"], {"k": [1]}))

    def test_without_signs_and_pieces(self):
        self.all_refused(("", " ", ";", "; ", "flat", "round", "flat;", "flat; ", "cast 1", "row k", "k", "0", "a+1",
                          "flat; cast 1", "flat; row k", "cast 1; row k", "flat; cast; row k", "flat; cast ; row k"))

    def test_without_items(self):
        self.all_refused(("flat; cast 1;", "flat; cast 1; ", "flat; cast 1; ;", "flat; cast 1; ; row k"))

    def test_ways(self):
        for way in ("", " ", "Flat", "FLAT", "fla", "flatt", "flat ", " flat", "rounds", "roun", "row", "flat round"):
            self.refused(f"{way}; cast 1; row k")

    def test_blanks_too_many_or_too_few(self):
        text = "flat; cast a+1; row k, [p, k] 2, rest [s], b; 1 times (row k turn)"
        self.is_read(text)
        for place in range(len(text) + 1):
            self.refused(text[:place] + " " + text[place:])
            if text[place:place + 1] == " ":
                self.refused(text[:place] + text[place + 1:])
                for sign in ("\t", "\n", "\u00a0", "  ", "_"):
                    self.refused(text[:place] + sign + text[place + 1:])

    def test_row_ends_at_the_end(self):
        for way, cast, items, text in told_patterns():
            for beside in ("\n", "\r\n", " ", ";", "; ", ",", ", ", ".", "\0", "]", ")", " turn turn"):
                self.refused(text + beside)
            for beside in ("\n", " ", "\ufeff", "; "):
                self.refused(beside + text)

    def test_sums(self):
        for text in ("", "+", "00", "01", "007", "0a", "1a", "01a", "a+0", "0+a", "a+", "+a", "a++b", "a+a", "2a+a",
                     "b+a", "d+c", "1+a", "3+2a", "a+1+2", "1+1", "ab", "a2", "2 a", "a + b", "a+ b", "e", "A", "2A",
                     "-1", "+1", "1.0", "1_0", "1e3", "\u00b2", "\u0662", "\uff12", "\u0662a", "a-1", "a+b+c+d+e",
                     "0x1", "(a)", "2*a", "aa", "a+b+a", "a+01", "10", "a"):
            wanted = text in ("10", "a")
            for way in ("flat; cast {}; row k", "round; cast 1; row [k] {}"):
                self.assertEqual(self.check(way.format(text)), wanted, text)

    def test_blocks_that_are_perhaps_not_worked(self):
        for text in ("0", "a", "2d", "a+b", "3a+2b+c+d", "a+0", "00", "01", "", " "):
            self.refused(f"flat; cast 1; {text} times (row k)")
            self.refused(f"flat; cast 1; 2 times ({text} times (row k))")

    def test_empty_ones(self):
        self.all_refused("flat; cast 1; " + text for text in (
            "row", "row ", "row  turn", "row turn", "row []", "row [] 2", "row [ ] 2", "row k, [] 2", "row [[] 2] 2",
            "row rest []", "row rest", "row rest ", "row k, rest []", "row rest [], k", "row rest [[] 2]",
            "2 times ()", "2 times ( )", "2 times (row )", "2 times", "2 times (", "2 times (1 times ())",
            "row k, ", "row , k", "row k, , k", "row ,", "row k; ", "2 times (row k; )", "2 times (; row k)",
        ))

    def test_rests(self):
        self.all_refused("flat; cast 1; " + text for text in (
            "row rest [k], rest [k]", "row rest [k], p, rest [k]", "row rest [k] rest [k]", "row [rest [k]] 2",
            "row rest [rest [k]]", "row rest [k] 2", "row rest [k] a", "row rest[k]", "row rest k", "row k rest [k]",
            "row rest [k] k", "row rest [k],k", "row k,rest [k]", "rest [k]", "row Rest [k]", "row rest (k)",
            "row rest [k], ", "row , rest [k]", "row [k], rest [k]", "row [k, rest [p]] a", "row rest [k]]",
        ))

    def test_turns(self):
        self.all_refused("flat; cast 1; " + text for text in (
            "row k turn turn", "row k, turn", "row turn k", "row k turn, k", "row kturn", "row k  turn", "row k Turn",
            "row rest [k] turn", "row k, rest [k] turn", "row rest [k], k turn", "row k, rest [k], k turn",
            "row [k turn] 2", "row [k] 2turn", "2 times (row k) turn", "2 times (row k turn turn)", "row k turn ",
            "row rest [k turn]", "row turn, k", "row k turned",
        ))

    def test_turns_in_a_round_pattern(self):
        for text in ("row k turn", "2 times (row k turn)", "row k; row p; a+1 times (row s; 2 times (row b turn))",
                     "row [k] 2 turn"):
            self.is_read("flat; cast 1; " + text)
            self.refused("round; cast 1; " + text)
            self.is_read("round; cast 1; " + text.replace(" turn", ""))

    def test_brackets(self):
        self.all_refused("flat; cast 1; " + text for text in (
            "row [k 2", "row k] 2", "row [k]] 2", "row [[k] 2", "row [k]", "row [k]2", "row [k)", "row (k) 2",
            "row [k) 2", "row 2 [k]", "2 times [row k]", "2 times (row k", "2 times row k)", "2 times row k",
            "2 times (row k))", "2times (row k)", "2 times(row k)", "2 time (row k)", "(row k)", "[row k] 2",
            "row k, (row k)", "row [row k] 2", "row 2 times (k)", "times (row k)", "row k)", "row k]", "row [k",
        ))

    def test_marks_that_are_none(self):
        for mark in ("", "K", "kk", "k1r", "k5l", "kx5", "kx1", "c0f1", "c1f5", "h", "f", "hv", "x", "turn", "row",
                     "rest", "times", "2", "a", "0", "k\n", "k ", "\u212a", "k2r2"):
            self.refused(f"flat; cast 1; row {mark}")
            self.refused(f"flat; cast 1; row p, {mark}")
            self.refused(f"flat; cast 1; row [{mark}] 2")
            self.refused(f"flat; cast 1; row rest [{mark}]")


class TestBounds(Reading):
    def test_numbers_of_eighteen_figures(self):
        forms = ("flat; cast {}; row k", "flat; cast {}a; row k", "flat; cast d+{}; row k",
                 "flat; cast 0; row [k] {} turn", "flat; cast 0; row [k] {}b+2c", "flat; cast 0; {} times (row k)",
                 "flat; cast 0; {}c+1 times (row k)", "flat; cast 0; row rest [[k] {}d]")
        for form in forms:
            for number in (10 ** 17, 10 ** 18 - 1, 123456789012345678):
                self.is_read(form.format(number))
            for number in (10 ** 18, 10 ** 19 - 1, 1234567890123456789, 10 ** 59, 10 ** 899):
                self.refused(form.format(number))
            for figures in ("0" + "1" * 18, "0" + "1" * 17, "0" * 19, "0" * 18):
                self.refused(form.format(figures))

    def test_all_numbers_of_a_sum_are_great(self):
        most = 10 ** 18 - 1
        told = (most, most, most, most, most)
        self.assertEqual(read(f"flat; cast {sum_text(told)}; row k").cast, told)

    def bracketed(self, blocks, repeats, rest):
        """Blocks, in these a row, in this perhaps a rest, in this repeats, one within the other."""
        parts = "[" * repeats + "k" + "] 2" * repeats
        row = f"row s, rest [{parts}], s" if rest else f"row {parts}"
        return "flat; cast 1; " + "2 times (row p; " * blocks + row + ")" * blocks

    def test_brackets_eight_deep(self):
        for blocks in range(11):
            for repeats in range(11):
                for rest in (0, 1):
                    text = self.bracketed(blocks, repeats, rest)
                    depth = blocks + repeats + rest
                    self.assertEqual(depth_of(text), depth)
                    self.assertEqual(self.check(text), depth <= 8, text)

    def test_brackets_beside_one_another_are_not_deep(self):
        self.is_read("flat; cast 1; row " + ", ".join(["[k] 2"] * 100) + "; 2 times (row k)" * 100)
        deep = "[" * 8 + "k" + "] 2" * 8
        self.is_read("flat; cast 1; row " + ", ".join([deep] * 5))
        self.refused("flat; cast 1; row " + ", ".join([deep] * 5) + ", [" + deep + "] 2")

    def test_very_deep_and_never_closed(self):
        ahead = "flat; cast 1; "
        for text in ("row " + "[" * 2900, "1 times (" * 300, "row rest " + "[" * 2900, "row " + "[" * 900 + "k",
                     "row " + "[" * 500 + "k" + "] 2" * 500, "row " + "]" * 900 + "[" * 900,
                     "1 times (" * 100 + "row k" + ")" * 100, "row k" + ")" * 2000):
            self.refused(ahead + text)

    def long_text(self, signs):
        """A pattern's text of just so many signs, between 2990 and 3010, with no row of more than 200 stitches."""
        row = "row " + ", ".join(["c2f1"] * 160)
        text = "flat; cast 1; " + "; ".join([row] * 3) + "; row k"
        while signs - len(text) > 5:
            text += ", k"
        return text + {3: ", k", 4: ", hw", 5: ", k2r"}[signs - len(text)]

    def test_texts_of_three_thousand_signs(self):
        for signs in range(2995, 3001):
            text = self.long_text(signs)
            self.assertEqual(len(text), signs)
            self.is_read(text)
        for signs in range(3001, 3008):
            text = self.long_text(signs)
            self.assertEqual(len(text), signs)
            self.refused(text)
        self.refused("k" * 10 ** 6)

    def test_many_rows(self):
        text = "round; cast 0; " + "; ".join(["row o"] * 200)
        self.assertEqual(len(read(text).things), 200)
        self.is_read(text)

    def test_nought(self):
        self.assertEqual(read("flat; cast 0; row [k] 0").cast, NOUGHT)


if __name__ == "__main__":
    unittest.main()
