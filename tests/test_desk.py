"""The desk: promises [2], [34] and [35], and the rows of its interface."""

import collections
import random
import unittest

from stitchroom.desk import Desk
from stitchroom.errors import Miscount, NoName, NoPattern, NoPlace, NoRow, NoSum, StitchError, TooMany
from stitchroom.looker import look
from stitchroom.prices import fewest, words
from stitchroom.reader import read
from stitchroom.rows import rows_at
from stitchroom.writer import shown
from tests.helper import (
    Drawn, FrontWork, NumberWork, at_once, front_marks, kept_names, made, marks_of, names_of, number_of, plain_fallen,
    refusal_of,
)

SCARF = "flat; cast 2a+3; a+1 times (row k, rest [p], k); row rest [b]"
RING = "round; cast 4; row [k] 4; row hw, hx, hx, b"
SHORT = "flat; cast 4; row k, k turn; row p turn; row k, k, k; row rest [k]; row rest [b]"
WIDE = "round; cast a; row rest [k]; row rest [b]"
EMPTY = "round; cast 0; row [k] 0; row o; row b; row rest [k]"
CHOICES = [[0, 0, 0, 0], [1, 0, 0, 0], [0, 1, 2, 0], [2, 1, 0, 3], [32, 19, 27, 21]]


def desk_with(**texts):
    """A desk that keeps the patterns of these texts."""
    desk = Desk()
    for name, text in texts.items():
        desk.say(f"new {name} {text}")
    return desk


class Asked(unittest.TestCase):
    def says(self, desk, row, answer):
        found = desk.say(row)
        self.assertIs(type(found), str)
        self.assertEqual(found, answer, row)

    def refuses(self, desk, row, refusal):
        """The row is refused with just this class, and the desk keeps what it kept."""
        before = self.kept(desk)
        with self.assertRaises(StitchError, msg=repr(row)[:200]) as found:
            desk.say(row)
        self.assertIs(type(found.exception), refusal, repr(row)[:200])
        self.assertEqual(self.kept(desk), before)
        return found.exception

    def kept(self, desk):
        """The texts that the desk answers for the names that these tests use."""
        texts = {}
        for name in ("a", "b", "scarf", "ring", "short", "wide", "empty", "abcdefgh", "other"):
            try:
                texts[name] = desk.say("text " + name)
            except NoName:
                pass
        return texts


class TestKept(Asked):
    """The rows new, drop and text."""

    def test_new_and_text(self):
        desk = Desk()
        for name, text in (("scarf", SCARF), ("a", RING), ("abcdefgh", SHORT), ("zzzzzzzz", WIDE), ("new", EMPTY),
                           ("text", SCARF), ("w", "round; cast 1; row b")):
            self.says(desk, f"new {name} {text}", "ok")
            self.says(desk, f"text {name}", text)
        self.says(desk, "text scarf", SCARF)

    def test_a_name_told_again(self):
        desk = desk_with(a=SCARF, b=RING)
        self.says(desk, f"new a {SHORT}", "ok")
        self.assertEqual(self.kept(desk), {"a": SHORT, "b": RING})

    def test_a_name_dropped_and_told_anew(self):
        desk = desk_with(a=SCARF, b=RING)
        self.says(desk, "drop a", "ok")
        self.assertEqual(self.kept(desk), {"b": RING})
        for row in ("text a", "drop a", "counts a", "loops a 0 0 0 0", "row a 0 0 0 0 1", "same a b 0 0 0 0",
                    "same b a 0 0 0 0", "fall a 0 0 0 0 0 0"):
            self.refuses(desk, row, NoName)
        self.says(desk, f"new a {WIDE}", "ok")
        self.assertEqual(self.kept(desk), {"a": WIDE, "b": RING})

    def test_two_desks_are_apart(self):
        first, second = Desk(), Desk()
        self.says(first, f"new a {RING}", "ok")
        self.refuses(second, "text a", NoName)
        self.says(second, f"new a {SCARF}", "ok")
        self.says(first, "text a", RING)
        self.says(first, "drop a", "ok")
        self.says(second, "text a", SCARF)

    def test_new_is_refused_as_the_stages_tell(self):
        desk = desk_with(a=SCARF)
        for text in ("", " ", "flat", SCARF + " ", " " + SCARF, SCARF.replace("; ", ";"), SCARF.replace("cast", "Cast"),
                     "round; cast 4; row k turn", "flat; cast 01; row k", "flat; cast 1; row k\n", "a", "a b c"):
            for name in ("a", "b"):
                self.refuses(desk, f"new {name} {text}", NoPattern)
        for name in ("a", "b"):
            found = self.refuses(desk, f"new {name} round; cast 1; row k; row [[k] a] b", NoSum)
            self.assertEqual(found.row, 1)
            self.refuses(desk, f"new {name} round; cast 2; 301 times (row k)", TooMany)
            found = self.refuses(desk, f"new {name} round; cast 2a+3; row rest [k2r]; row rest [b]", Miscount)
            self.assertEqual((found.row, found.place, found.choice, found.lies, found.asked),
                             (0, "needle", [0, 0, 0, 0], 3, 0))
            found = self.refuses(desk, f"new {name} flat; cast a+2; row rest [k]", Miscount)
            self.assertEqual((found.row, found.place, found.asked), (1, "end", 0))
            self.assertEqual(found.lies, found.choice[0] + 2)
        # What is counted ahead of what is walked, and this ahead of what is worked.
        self.refuses(desk, "new a round; cast 2; 301 times (row k; row [[k] a] b)", NoSum)
        self.refuses(desk, "new a round; cast 2; 301 times (row k, k, k)", TooMany)

    def test_a_pattern_too_great_at_a_choice_is_kept(self):
        desk = desk_with(wide=WIDE)
        with at_once():
            self.refuses(desk, "loops wide 999999999 0 0 0", TooMany)
        self.says(desk, "loops wide 1500 999999999 999999999 999999999", "3000 0 1500")


class TestCounts(Asked):
    def test_by_hand(self):
        desk = desk_with(scarf=SCARF, ring=RING, short=SHORT, empty=EMPTY,
                         a="flat; cast a+b+2c+d+1; 2 times (row rest [s]); row [b] a, [b] b, [b] 2c+d, b")
        self.says(desk, "counts scarf", "2a+3 2a+3")
        self.says(desk, "counts ring", "4 4")
        self.says(desk, "counts short", "4 2 3 4 4")
        self.says(desk, "counts empty", "0 0 1 0")
        self.says(desk, "counts a", " ".join(["a+b+2c+d+1"] * 3))

    def test_drawn_patterns(self):
        seen = 0
        for seed in range(200):
            pattern = Drawn(seed).whole()
            if refusal_of(look, pattern) is None:
                desk = desk_with(a=shown(pattern))
                sums = [read("flat; cast " + text + "; row k").cast for text in desk.say("counts a").split(" ")]
                self.assertEqual(sums, [step[1] for step in look(pattern)])
                seen += 1
        self.assertGreater(seen, 60)


class TestLoops(Asked):
    def test_by_hand(self):
        desk = desk_with(scarf=SCARF, ring=RING, short=SHORT, empty=EMPTY)
        self.says(desk, "loops scarf 0 0 0 0", "6 0 3")
        self.says(desk, "loops scarf 2 0 0 0", "28 0 7")
        self.says(desk, "loops scarf 2 9 8 7", "28 0 7")
        self.says(desk, "loops ring 0 0 0 0", "8 3 1")
        self.says(desk, "loops short 0 0 0 0", "14 0 4")
        self.says(desk, "loops empty 3 0 0 0", "1 0 1")
        self.says(desk_with(a="round; cast 0; row [k] 0"), "loops a 0 0 0 0", "0 0 0")

    def test_each_size(self):
        desk = desk_with(a="round; cast a+10b+100c+1000d; row [hw] a, [hx] 10b, [b] 100c, rest [k]; row [b] 1000d")
        for choice, answer in (("1 0 0 0", "1 1 0"), ("0 1 0 0", "10 10 0"), ("0 0 1 0", "100 0 100"),
                               ("0 0 0 1", "2000 0 1000"), ("2 3 4 0", "432 32 400"), ("0 0 0 0", "0 0 0")):
            self.says(desk, f"loops a {choice}", answer)

    def test_too_many(self):
        desk = desk_with(scarf=SCARF, wide=WIDE)
        self.says(desk, "loops wide 1500 0 0 0", "3000 0 1500")
        self.refuses(desk, "loops wide 1501 0 0 0", TooMany)
        self.refuses(desk, "loops scarf 300 0 0 0", TooMany)
        self.refuses(desk_with(a="round; cast 0; a+1 times (row rest [k])"), "loops a 300 0 0 0", TooMany)
        self.says(desk_with(a="round; cast 0; a+1 times (row rest [k])"), "loops a 299 0 0 0", "0 0 0")


class TestRow(Asked):
    def is_told(self, desk, row, marks):
        """The answer tells the row of these marks in the fewest words."""
        answer = desk.say(row)
        if not marks:
            self.assertEqual(answer, "-")
            return
        parts = read(f"round; cast 0; row {answer}").things[0][1]
        self.assertEqual(marks_of(parts, [0, 0, 0, 0]), marks, row)
        self.assertEqual(words(parts), fewest(made(marks))[0][-1], row)

    def test_by_hand(self):
        desk = desk_with(scarf=SCARF, ring=RING, short=SHORT, empty=EMPTY)
        self.says(desk, "row ring 0 0 0 0 1", "[k] 4")
        self.says(desk, "row scarf 3 0 0 0 1", "k, [p] 7, k")
        self.says(desk, "row scarf 3 0 0 0 2", "p, [k] 7, p")
        self.says(desk, "row scarf 3 0 0 0 3", "k, [p] 7, k")
        self.says(desk, "row scarf 3 0 0 0 5", "[b] 9")
        self.is_told(desk, "row ring 0 0 0 0 2", ["hw", "hx", "hx", "b"])
        self.says(desk, "row empty 0 0 0 0 1", "-")
        self.says(desk, "row empty 0 0 0 0 2", "o")
        self.says(desk, "row empty 0 0 0 0 3", "b")
        self.says(desk, "row empty 0 0 0 0 4", "-")

    def test_told_from_the_front(self):
        desk = desk_with(short=SHORT)
        for number, marks in enumerate(("k k s s", "s k s s", "s k k k", "p p p p", "b b b b"), 1):
            self.is_told(desk, f"row short 0 0 0 0 {number}", marks.split())
        # The rows of a round pattern are told as they are worked.
        desk = desk_with(a="round; cast 2; row k, p; row k2l; row b", b="flat; cast 2; row k, p; row k2l; row b")
        for name, marks in (("a", "k2l"), ("b", "p2l")):
            self.says(desk, f"row {name} 0 0 0 0 1", "k, p")
            self.says(desk, f"row {name} 0 0 0 0 2", marks)

    def test_up_to_sixty_stitches(self):
        desk = desk_with(wide=WIDE, a="flat; cast a+1; row k turn; row s; row rest [b]")
        for number, mark in ((1, "k"), (2, "b")):
            self.says(desk, f"row wide 59 0 0 0 {number}", f"[{mark}] 59")
            self.says(desk, f"row wide 60 0 0 0 {number}", f"[{mark}] 60")
            for many in (61, 62, 100, 1500):
                self.refuses(desk, f"row wide {many} 0 0 0 {number}", TooMany)
        # Loops that were not taken are slipped, and count.
        self.is_told(desk, "row a 59 0 0 0 1", ["k"] + ["s"] * 59)
        self.refuses(desk, "row a 60 0 0 0 1", TooMany)
        self.refuses(desk, "row a 60 0 0 0 2", TooMany)

    def test_another_row_may_have_more(self):
        desk = desk_with(a="round; cast 8; row [kx4] 8; row [kx4] 32; row [k] 128; row [k4r] 32; row rest [b]")
        for number, answer in ((1, "[kx4] 8"), (2, "[kx4] 32"), (4, "[k4r] 32"), (5, "[b] 32")):
            self.says(desk, f"row a 0 0 0 0 {number}", answer)
        self.refuses(desk, "row a 0 0 0 0 3", TooMany)

    def test_rows_that_are_not_there(self):
        desk = desk_with(scarf=SCARF, empty=EMPTY)
        self.says(desk, "row scarf 1 0 0 0 3", "[b] 5")
        for number in (0, 4, 5, 100, 999999999):
            self.refuses(desk, f"row scarf 1 0 0 0 {number}", NoPlace)
        for number in (0, 5, 6, 999999999):
            self.refuses(desk, f"row empty 1 0 0 0 {number}", NoPlace)
        self.says(desk, "row scarf 2 0 0 0 4", "[b] 7")

    def test_the_rows_come_ahead_of_a_row_among_them(self):
        desk = desk_with(wide=WIDE)
        for number in (0, 1, 2, 3):
            self.refuses(desk, f"row wide 1501 0 0 0 {number}", TooMany)
        self.refuses(desk, "row wide 1500 0 0 0 3", NoPlace)
        self.refuses(desk, "row wide 1500 0 0 0 2", TooMany)


class TestSame(Asked):
    def test_by_hand(self):
        desk = desk_with(a="flat; cast a+1; row rest [k]; row rest [k]; row rest [b]",
                         b="round; cast a+1; row rest [k]; row rest [p]; row rest [b]", scarf=SCARF,
                         other="flat; cast b+1; row rest [k]; row rest [k]; row rest [b]")
        self.says(desk, "same a b 3 0 0 0", "yes")
        self.says(desk, "same b a 0 0 0 0", "yes")
        self.says(desk, "same a a 3 0 0 0", "yes")
        self.says(desk, "same a scarf 3 0 0 0", "no")
        self.says(desk, "same a other 2 2 0 0", "yes")
        self.says(desk, "same a other 2 1 0 0", "no")
        self.says(desk, "same other a 1 2 0 0", "no")

    def test_what_is_kept_and_cast_off_and_rows_without_loops_count(self):
        desk = desk_with(a="round; cast 2; row b, hw", b="round; cast 2; row hw, b", c="round; cast 2; row b, hx",
                         d="round; cast 2; row b, hw; row rest [k]", e="round; cast 2; row b, b",
                         f="round; cast 2; row c1f1; row b, b", g="round; cast 2; row c1b1; row b, b",
                         h="round; cast 2; row [[b] 1, hw] 1")
        for name in "abcdefgh":
            for other in "abcdefgh":
                same = name == other or {name, other} == {"a", "h"}
                self.says(desk, f"same {name} {other} 0 0 0 0", "yes" if same else "no")

    def test_too_many(self):
        desk = desk_with(a=WIDE, b=WIDE.replace("a;", "b;"))
        self.says(desk, "same a b 1500 1500 0 0", "yes")
        for sizes in ("1501 0 0 0", "0 1501 0 0", "1501 1501 0 0"):
            self.refuses(desk, f"same a b {sizes}", TooMany)
            self.refuses(desk, f"same b a {sizes}", TooMany)


class TestFall(Asked):
    def test_behind_no_rows_some_and_all(self):
        desk = desk_with(ring=RING, a="round; cast 2; row k, k; row k2r; row b")
        self.says(desk, "fall ring 0 0 0 0 0 0", "0.0")
        self.says(desk, "fall ring 0 0 0 0 0 3 1", "0.1 0.3")
        self.says(desk, "fall ring 0 0 0 0 1 2", "1.2 0.2")
        self.says(desk, "fall a 0 0 0 0 1 1", "1.1 0.1")
        self.says(desk, "fall a 0 0 0 0 2 0", "2.0 1.0 1.1 0.0 0.1")
        # Behind all rows nothing lies.
        self.refuses(desk, "fall ring 0 0 0 0 2 0", NoPlace)
        self.refuses(desk, "fall a 0 0 0 0 3 0", NoPlace)

    def test_places_told_twice(self):
        desk = desk_with(ring=RING)
        self.says(desk, "fall ring 0 0 0 0 0 2 2", "0.2")
        self.says(desk, "fall ring 0 0 0 0 1 3 0 3 0 0", "1.0 1.3 0.0 0.3")

    def test_places_are_those_of_the_list_of_those_lying(self):
        desk = desk_with(short=SHORT)
        # Behind the second row 1.0, 2.0, 0.2 and 0.3 lie, from the right.
        for place, answer in ((0, "1.0 0.0"), (1, "2.0 1.1 0.1"), (2, "0.2"), (3, "0.3")):
            self.says(desk, f"fall short 0 0 0 0 2 {place}", answer)
        self.says(desk, "fall short 0 0 0 0 2 3 2 1 0", "2.0 1.0 1.1 0.0 0.1 0.2 0.3")
        self.says(desk, "fall short 0 0 0 0 1 1 2", "1.1 0.1 0.2")

    def test_rows_and_places_that_are_not_there(self):
        desk = desk_with(scarf=SCARF, empty=EMPTY)
        self.says(desk, "fall scarf 0 0 0 0 1 2", "1.2 0.2")
        for row in ("1 3", "1 0 3", "1 3 0", "1 999999999", "0 3", "2 0", "3 0", "999999999 0", "3 3", "2 2"):
            self.refuses(desk, f"fall scarf 0 0 0 0 {row}", NoPlace)
        for number in (0, 1, 3, 4, 5):
            self.refuses(desk, f"fall empty 0 0 0 0 {number} 0", NoPlace)
        self.says(desk, "fall empty 0 0 0 0 2 0", "2.0")

    def test_the_rows_come_ahead_of_a_row_or_a_place(self):
        desk = desk_with(wide=WIDE)
        for row in ("0 0", "3 0", "0 1501", "9 9"):
            self.refuses(desk, f"fall wide 1501 0 0 0 {row}", TooMany)
        self.says(desk, "fall wide 1500 0 0 0 1 1499", "1.1499 0.1499")
        self.refuses(desk, "fall wide 1500 0 0 0 1 1500", NoPlace)

    def test_many_places(self):
        desk = desk_with(wide=WIDE)
        places = " ".join(str(place) for place in range(400))
        names = [f"{row}.{place}" for row in (1, 0) for place in range(400)]
        self.says(desk, f"fall wide 400 0 0 0 1 {places}", " ".join(names))

    def test_kept_loops_hold_what_they_are_drawn_through(self):
        desk = desk_with(a="flat; cast 1; row kx2; row hw, k; row b")
        self.says(desk, "fall a 0 0 0 0 2 0", "2.0 1.0")
        self.says(desk, "fall a 0 0 0 0 1 0 1", "1.0 1.1 0.0")


class TestDrawn(Asked):
    """The rows that ask for cloths, against workings apart, for drawn patterns."""

    def test_drawn_patterns(self):
        draw = random.Random(60)
        seen = collections.Counter()
        for seed in range(80):
            pattern = Drawn(seed).whole()
            if refusal_of(look, pattern) is not None:
                self.refuses(Desk(), f"new a {shown(pattern)}", refusal_of(look, pattern)[0])
                continue
            desk = desk_with(a=shown(pattern))
            for choice in CHOICES:
                if refusal_of(rows_at, pattern, choice) is None:
                    self.check(draw, desk, pattern, choice, seen)
                else:
                    sizes = " ".join(str(size) for size in choice)
                    for row in (f"loops a {sizes}", f"row a {sizes} 0", f"same a a {sizes}", f"fall a {sizes} 0 0"):
                        self.refuses(desk, row, TooMany)
                    seen["too many"] += 1
        self.assertGreater(min(seen[word] for word in ("too many", "row", "long", "fall", "no place")), 5, seen)

    def check(self, draw, desk, pattern, choice, seen):
        sizes = " ".join(str(size) for size in choice)
        works = [(marks, turn) for number, marks, turn in NumberWork(pattern, choice, really=True).works]
        cast = number_of(pattern.cast, choice)
        front = front_marks(cast, works) if pattern.way == "flat" else [marks for marks, turn in works]
        work, cut = FrontWork(pattern.way, cast), draw.randrange(len(works) + 1)
        for many, (marks, turn) in enumerate(works):
            if many == cut:
                self.check_fall(draw, desk, f"fall a {sizes} {many}", work.web(), seen)
            work.work(marks)
        web = work.web()
        self.says(desk, f"loops a {sizes}", f"{len(names_of(web))} {len(kept_names(web))} {len(web[3])}")
        self.says(desk, f"same a a {sizes}", "yes")
        number = draw.randrange(len(front)) if front else 0
        if len(front[number]) > 60:
            self.refuses(desk, f"row a {sizes} {number + 1}", TooMany)
            seen["long"] += 1
        else:
            TestRow.is_told(self, desk, f"row a {sizes} {number + 1}", front[number])
            seen["row"] += 1
        for row in (f"row a {sizes} {len(front) + 1}", f"row a {sizes} 0", f"fall a {sizes} {len(front) + 1} 0"):
            self.refuses(desk, row, NoPlace)

    def check_fall(self, draw, desk, row, web, seen):
        lies = len(web[1])
        self.refuses(desk, f"{row} {lies}", NoPlace)
        seen["no place"] += 1
        if 0 < lies and len(names_of(web)) < 150:
            places = [draw.randrange(lies) for time in range(draw.randrange(1, 5))]
            fallen = plain_fallen(web, [web[1][place] for place in places])
            told = sorted(fallen, key=lambda name: (-name[0], name[1]))
            self.says(desk, f"{row} " + " ".join(str(place) for place in places),
                      " ".join(f"{number}.{place}" for number, place in told))
            seen["fall"] += 1


# Rows that the desk below answers, each with its words but the first told by N for a name and 9 for a number.
ROWS = {
    "drop a": "N", "text a": "N", "counts a": "N", "loops a 0 0 0 0": "N9999", "row a 0 0 0 0 1": "N99999",
    "same a b 0 0 0 0": "NN9999", "fall a 0 0 0 0 0 0": "N999999", "fall a 0 0 0 0 1 2 1 0": "N99999999",
}
NO_NAMES = ("", "A", "Ab", "aB", "a1", "1", "0", "a-b", "a_b", "abcdefghi", "abcdefghijklmnop", "\u00e4", "a\n", "\na",
            "a\t", "a.", "a;", "\u0430", "\uff41", "a\u0301", "-")
NO_NUMBERS = ("", "00", "01", "007", "0123456789", "1000000000", "1234567890", "9999999999", "0000000001", "-1", "-0",
              "+1", "1.0", "1e3", "1_0", "a", "k", "1a", "0x1", "1,2", "\u0661", "\u00b2", "\uff11", "1\n", "\n1",
              "1\t", "9" * 5000)


class TestNoRow(Asked):
    def desk(self):
        return desk_with(a=SCARF, b=RING)

    def test_the_rows_themselves_are_answered(self):
        for row, form in ROWS.items():
            self.assertEqual(len(row.split(" ")), len(form) + 1)
            self.assertIs(type(self.desk().say(row)), str)

    def test_no_text(self):
        class Odd:
            pass

        desk = self.desk()
        for thing in (None, True, False, 0, 1, 1.5, b"text a", [], ["text a"], ["text", "a"], ("text", "a"), (), {},
                      {"text a": 1}, set(), Odd(), Odd, len, iter("text a"), made(["k"])[0], read(RING), float("nan")):
            self.refuses(desk, thing, NoRow)

    def test_other_first_words(self):
        desk = self.desk()
        for row in ("", " ", "  ", "a", "text", "New a " + RING, "TEXT a", "texts a", "tex a", "ask a", "say a",
                    "count a", "help", "quit", "-", "0", "text\ta", "text\na", "text,a", "text\u00a0a", "texta",
                    "same", "fall", "knit a 0 0 0 0", "news a " + RING, "ne a " + RING, RING, "a text", "old a"):
            self.refuses(desk, row, NoRow)

    def test_words_missing_or_too_many(self):
        desk = self.desk()
        for row, form in ROWS.items():
            told = row.split(" ")
            least = 8 if told[0] == "fall" else len(told)
            for many in range(1, least):
                self.refuses(desk, " ".join(told[:many]), NoRow)
            for more in ("a", "-", "k", "") if told[0] == "fall" else ("0", "1", "a", "b", "", "-"):
                self.refuses(desk, f"{row} {more}", NoRow)

    def test_two_blanks_and_blanks_ahead_and_behind(self):
        desk = self.desk()
        for row in ROWS:
            told = row.split(" ")
            for place in range(1, len(told)):
                self.refuses(desk, " ".join(told[:place]) + "  " + " ".join(told[place:]), NoRow)
            for spoilt in (" " + row, row + " ", row + "  ", "\t" + row, row + "\n", row + "\t", row.replace(" ", "\t"),
                           row.replace(" ", "\u00a0")):
                self.refuses(desk, spoilt, NoRow)

    def test_words_that_are_no_names(self):
        desk = self.desk()
        for row, form in ROWS.items():
            for place, kind in enumerate(form, 1):
                told = row.split(" ")
                if kind == "N":
                    for word in NO_NAMES:
                        told[place] = word
                        self.refuses(desk, " ".join(told), NoRow)

    def test_words_that_are_no_numbers(self):
        desk = self.desk()
        for row, form in ROWS.items():
            for place, kind in enumerate(form, 1):
                told = row.split(" ")
                if kind == "9":
                    for word in NO_NUMBERS:
                        told[place] = word
                        self.refuses(desk, " ".join(told), NoRow)

    def test_numbers_of_nine_figures_are_let_by(self):
        desk = desk_with(a=RING)
        for number in ("0", "9", "10", "100000000", "999999999"):
            self.says(desk, f"loops a {number} {number} {number} {number}", "8 3 1")

    def test_new(self):
        desk = self.desk()
        for row in ("new", "new ", "new a", "new  ", "new  a", f"new  {RING}", f"new  a {RING}", f" new a {RING}",
                    "newa ", f"new\ta {RING}", f"new a\t{RING}", f"new a\n{RING}", f"new {RING}", "new abcdefgh"):
            self.refuses(desk, row, NoRow)
        for name in NO_NAMES:
            self.refuses(desk, f"new {name} {RING}", NoRow)
            self.refuses(desk, f"new {name} ", NoRow)
        # All that follows the blank behind the name is the text, whatever it is.
        for text in ("", " ", f" {RING}", f"{RING} ", "a", f"a {RING}", "  ", "\n", f"{RING}\n"):
            self.refuses(desk, f"new a {text}", NoPattern)
            self.refuses(desk, f"new other {text}", NoPattern)

    def test_names_of_one_to_eight_letters_are_let_by(self):
        desk = Desk()
        for name in ("a", "z", "az", "abcdefg", "abcdefgh", "stuvwxyz", "drop", "fall", "ok"):
            self.says(desk, f"new {name} {RING}", "ok")
            self.says(desk, f"text {name}", RING)


class TestOrder(Asked):
    def test_no_row_ahead_of_no_name(self):
        desk = desk_with(a=RING)
        for row in ("drop b 1", "text  b", "counts b ", "loops b 0 0 0", "loops b 0 0 0 01", "row b 0 0 0 0",
                    "row b 0 0 0 0 -1", "same b a 0 0 0", "same b A 0 0 0 0", "same A b 0 0 0 0", "fall b 0 0 0 0 0",
                    "fall b 0 0 0 0 0 1000000000"):
            self.refuses(desk, row, NoRow)

    def test_no_name_ahead_of_what_the_stages_refuse(self):
        desk = desk_with(a=WIDE)
        for row in ("loops b 1501 0 0 0", "row b 1501 0 0 0 0", "row b 0 0 0 0 0", "same a b 1501 0 0 0",
                    "same b a 1501 0 0 0", "same b b 0 0 0 0", "fall b 1501 0 0 0 9 9", "fall b 0 0 0 0 9 9"):
            self.refuses(desk, row, NoName)

    def test_names_that_were_never_told(self):
        for row in ROWS:
            self.refuses(Desk(), row, NoName)
        desk = desk_with(a=RING)
        for row in ROWS:
            self.refuses(desk, row.replace(" a", " ab"), NoName)
        for name in ("b", "aa", "abcdefgh"):
            self.refuses(desk, f"text {name}", NoName)

    def test_new_asks_for_no_name(self):
        self.says(Desk(), f"new a {RING}", "ok")
        self.refuses(Desk(), "new a b", NoPattern)

    def test_what_is_refused_leaves_the_answers(self):
        desk = desk_with(a=SCARF, b=RING)
        asked = [row for row in ROWS if not row.startswith("drop")]
        before = [desk.say(row) for row in asked]
        for row in ("new a flat", f"new b {RING} ", "new a round; cast 1; row k", "drop c", "drop a b", "new c k", None,
                    "row a 0 0 0 0 0", "fall a 0 0 0 0 0 99", "loops a 999999999 0 0 0"):
            self.assertIsNotNone(refusal_of(desk.say, row))
            self.assertEqual([desk.say(row) for row in asked], before)
        self.refuses(desk, "text c", NoName)

    def test_by_names_of_the_interface(self):
        self.assertEqual(Desk().say(row=f"new a {RING}"), "ok")


if __name__ == "__main__":
    unittest.main()
