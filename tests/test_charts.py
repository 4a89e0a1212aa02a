"""Charts, told and read: promises [2] and [26]."""

import collections
import copy
import itertools
import random
import re
import unittest

from stitchroom.charts import chart, read_chart
from stitchroom.errors import NoChart, NoStitch
from tests.helper import all_marks, drawn_work, made, marked, state

MARKS = set(all_marks())
NUMBER_FORM = re.compile(r"cast (0|[1-9][0-9]{0,8})", re.ASCII)
SIGNS = " -kpsobcqhfxrlwz0123456789\n\tKx,."


def rows_of(*texts):
    """Rows of stitches, each told by its marks from the first stitch on."""
    return [made(text.split()) for text in texts]


def told_by_hand(texts):
    """The number and the rows of marks that a list of texts is the chart of, or None."""
    if type(texts) is not list or not texts or any(type(text) is not str for text in texts):
        return None
    number = NUMBER_FORM.fullmatch(texts[-1])
    rows = [[] if text == "-" else text.split(" ")[::-1] for text in texts[-2::-1]]
    if number is None or any(mark not in MARKS for row in rows for mark in row):
        return None
    return (int(number.group(1)), rows)


class Charted(unittest.TestCase):
    def is_read(self, texts, number, rows):
        """The chart is read to the number and the rows, told by marks."""
        before = list(texts)
        found = read_chart(texts)
        self.assertEqual(([type(part) for part in found], type(found)), ([int, list], tuple))
        self.assertEqual({type(row) for row in found[1]} | {list}, {list})
        self.assertEqual(marked(found), (number, rows))
        for stitch in itertools.chain(*found[1]):
            self.assertEqual(state(stitch), state(made([stitch.mark()])[0]))
        self.assertEqual(texts, before)

    def is_refused(self, thing):
        with self.assertRaises(NoChart, msg=repr(thing)[:200]) as refusal:
            read_chart(thing)
        self.assertNotIsInstance(refusal.exception, NoStitch)

    def check(self, texts):
        """A list is read where it is a chart, and else refused; tells which."""
        told = told_by_hand(texts)
        if told is None:
            self.is_refused(texts)
        else:
            self.is_read(texts, *told)
            self.assertEqual(chart(*read_chart(texts)), texts)
        return told is not None


class TestChart(Charted):
    def is_chart(self, cast, rows, texts):
        before = marked(rows)
        found = chart(cast, rows)
        self.assertIs(type(found), list)
        self.assertEqual(found, texts)
        self.assertEqual(marked(rows), before)

    def test_by_hand(self):
        self.is_chart(3, rows_of("k p s", "k2r o k", "b b b"), ["b b b", "k o k2r", "s p k", "cast 3"])
        self.is_chart(12, rows_of("c2f1 hw q1b4"), ["q1b4 hw c2f1", "cast 12"])
        self.is_chart(1, rows_of("kx2"), ["kx2", "cast 1"])

    def test_by_names_of_the_interface(self):
        self.assertEqual(chart(cast=2, rows=rows_of("k p")), ["p k", "cast 2"])
        self.assertEqual(marked(read_chart(chart=["p k", "cast 2"])), (2, [["k", "p"]]))

    def test_no_rows(self):
        for cast in (0, 1, 7, 10, 999999999, 10 ** 9, 10 ** 899):
            self.is_chart(cast, [], ["cast " + str(cast)])

    def test_rows_without_stitches(self):
        self.is_chart(0, [[]], ["-", "cast 0"])
        self.is_chart(0, rows_of("", "o o", ""), ["-", "o o", "-", "cast 0"])

    def test_every_stitch(self):
        for mark in all_marks():
            self.is_chart(1, rows_of(mark), [mark, "cast 1"])
            self.is_chart(1, rows_of(f"k {mark}"), [f"{mark} k", "cast 1"])
        self.is_chart(5, rows_of(" ".join(all_marks())), [" ".join(all_marks()[::-1]), "cast 5"])

    def test_rows_need_not_fit(self):
        self.is_chart(0, rows_of("k4r", "fw"), ["fw", "k4r", "cast 0"])

    def test_drawn_rows_there_and_back(self):
        draw = random.Random(26)
        for time in range(200):
            way, cast, work = drawn_work(draw)
            rows = [made(marks) for marks, turn in work]
            texts = chart(cast, rows)
            self.assertEqual(told_by_hand(texts), (cast, marked(rows)))
            self.is_read(texts, cast, marked(rows))

    def test_what_is_told_is_the_asker_s_own(self):
        rows = rows_of("k p", "", "s o")
        before = [list(row) for row in rows]
        texts = chart(2, rows)
        texts.reverse()
        texts.append("spoilt")
        self.assertEqual(rows, before)
        self.is_chart(2, rows, ["o s", "-", "p k", "cast 2"])
        texts = chart(2, rows)
        rows.clear()
        self.assertEqual(texts, ["o s", "-", "p k", "cast 2"])


class TestReadChart(Charted):
    def test_by_hand(self):
        self.is_read(["b b b", "k o k2r", "s p k", "cast 3"], 3, [["k", "p", "s"], ["k2r", "o", "k"], ["b", "b", "b"]])
        self.is_read(["cast 0"], 0, [])
        self.is_read(["-", "cast 0"], 0, [[]])
        self.is_read(["-", "k", "-", "-", "cast 10"], 10, [[], [], ["k"], []])

    def test_every_stitch(self):
        for mark in all_marks():
            self.is_read([mark, "cast 1"], 1, [[mark]])
            self.is_read(["k " + mark, "cast 1"], 1, [[mark, "k"]])
        self.is_read([" ".join(all_marks()), "cast 1"], 1, [all_marks()[::-1]])

    def test_numbers(self):
        for figures in ("0", "1", "9", "10", "100", "12345678", "99999999", "100000000", "123456789", "999999999"):
            self.is_read(["cast " + figures], int(figures), [])
        for figures in ("", "00", "01", "007", "0123456789", "1000000000", "9999999999", "12345678901234567890",
                        "0000000001", "-1", "+1", "1.0", "1e3", "1_0", " 1", "1 ", "1\n", "\n1", "a", "k", "2a", "0x1",
                        "1,2", "1 2", "\u0661", "\u00b2", "\uff11", "1\u0660", "9" * 900, "9" * 5000):
            self.is_refused(["cast " + figures])
            self.is_refused(["k", "cast " + figures])

    def test_the_word_cast(self):
        for text in ("", "cast", "cast ", "cast1", "Cast 1", "CAST 1", "cast  1", " cast 1", "cas 1", "1", "kast 1",
                     "cast\t1", "cast\n1", "cast 1;", "cast 1\r", "casts 1", "cast a", "k", "-"):
            self.is_refused([text])
            self.is_refused(["k", text])

    def test_rows(self):
        for text in ("", " ", "--", "- -", "k -", "- k", " -", "- ", "k  p", " k", "k ", "k\n", "\nk", "k\tp", "k,p",
                     "k, p", "kp", "K", "k5r", "k1r", "kx5", "kx1", "c0f1", "c5f1", "c1f5", "h", "hv", "fa", "cast 1",
                     "cast", "k\u00a0p", "\u043a", "k2r\r", "rest [k]", "[k] 2", "1", "k k k k K"):
            self.is_refused([text, "cast 1"])
            self.is_refused(["k", text, "cast 1"])
            self.is_refused([text, "k", "cast 1"])

    def test_lists(self):
        for texts in ([], ["k"], ["-"], ["cast 1", "k"], ["cast 1", "cast 1"], ["k", "cast 1", "k"], ["cast 1", ""],
                      [""], ["", "cast 1"], ["k", "cast 1", "cast 2"], ["cast 1", "-"]):
            self.is_refused(texts)

    def test_things_of_other_kinds(self):
        class Odd:
            pass

        for thing in (None, True, False, 0, 1, 1.5, "", "k", "cast 1", "c", b"cast 1", (), ("cast 1",), ("k", "cast 1"),
                      {}, {"cast 1": 1}, {0: "cast 1"}, set(), {"cast 1"}, frozenset(["cast 1"]), Odd(), Odd, len,
                      iter(["cast 1"]), range(2), made(["k"])[0], float("nan"), 2j, [["cast 1"]], [("cast 1",)],
                      (3, [])):
            self.is_refused(thing)

    def test_things_of_other_kinds_in_a_list(self):
        for thing in (None, True, 0, 3, 1.5, b"k", b"cast 1", [], ["k"], ["cast 1"], (), ("k",), {}, {"k": 1}, set(),
                      made(["k"])[0], made(["k"]), float("nan"), object()):
            for texts in ([thing], [thing, "cast 1"], ["k", thing, "cast 1"], ["k", thing], [thing, thing],
                          ["cast 1", thing]):
                self.is_refused(texts)

    def test_spoilt_charts(self):
        draw = random.Random(27)
        seen = collections.Counter()
        for time in range(400):
            way, cast, work = drawn_work(draw)
            texts = chart(cast, [made(marks) for marks, turn in work])
            for spoilt in self.spoilt(draw, texts):
                seen[self.check(spoilt)] += 1
        self.assertGreater(min(seen[True], seen[False]), 300, seen)

    def spoilt(self, draw, texts):
        """The texts with a sign more, less or another one, and a text more, less, twice, or at another place."""
        at = draw.randrange(len(texts))
        text, sign = texts[at], draw.choice(SIGNS)
        place = draw.randrange(len(text))
        for new in (text[:place] + text[place + 1:], text[:place] + sign + text[place:], text + sign, text + " " + sign,
                    text[:place] + sign + text[place + 1:], draw.choice(("", "-", "k", "cast 4", text + text))):
            yield texts[:at] + [new] + texts[at + 1:]
        yield texts[:at] + texts[at + 1:]
        yield texts[:at] + [text] + texts[at:]
        yield texts[:at] + [draw.choice(("-", "", "k p", "cast 2", "kp"))] + texts[at:]
        yield texts[at:] + texts[:at]
        yield texts[::-1]
        yield texts[:at] + [draw.choice((None, 0, [text], (text,), text.encode()))] + texts[at + 1:]

    def test_all_short_texts(self):
        for many in range(4):
            for signs in itertools.product("kx2- hw", repeat=many):
                text = "".join(signs)
                self.check([text, "cast 1"])
                self.check(["cast " + text])
        for many in range(5):
            for signs in itertools.product("019 -", repeat=many):
                self.check(["cast " + "".join(signs)])
                self.check(["-", "cast" + "".join(signs)])

    def test_what_is_told_is_the_asker_s_own(self):
        texts = ["o s", "-", "p k", "cast 2"]
        before = copy.copy(texts)
        number, rows = read_chart(texts)
        for row in rows:
            row.append("spoilt")
        rows.clear()
        self.assertEqual(texts, before)
        self.is_read(texts, 2, [["k", "p"], [], ["s", "o"]])
        found = read_chart(texts)
        texts.clear()
        self.assertEqual(marked(found), (2, [["k", "p"], [], ["s", "o"]]))
        number, rows = read_chart(["-", "-", "cast 2"])
        rows[0].append("spoilt")
        self.assertEqual(rows[1], [])


if __name__ == "__main__":
    unittest.main()
