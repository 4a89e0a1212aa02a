"""What several test files need: all stitches of point 5, one by one, patterns with their texts, drawn patterns, rows
and webs; and workings of points that are written apart from the program: of patterns in plain numbers, of rows from the
front, of what comes undone, of rows and webs turned about, and of the moves of rows.
"""

import collections
import contextlib
import itertools
import random
import re
import signal

from stitchroom.errors import NoPattern, StitchError
from stitchroom.needles import Needles
from stitchroom.patterns import Pattern
from stitchroom.reader import read
from stitchroom.stitches import Cross, Fetch, Grow, Keep, Lean, Off, Over, Plain, Slip, Stitch

SIDES = (1, -1)
KEEPERS = ("w", "x", "y", "z")


def all_made():
    """A list of tuples (class, arguments, mark), for each stitch that point 5 lets be."""
    made = [(Slip, (), "s"), (Over, (), "o"), (Off, (), "b")]
    for side, sign, crossing in ((1, "k", "c"), (-1, "p", "q")):
        made.append((Plain, (side,), sign))
        for many in (2, 3, 4):
            made.append((Grow, (many, side), f"{sign}x{many}"))
            for way in "rl":
                made.append((Lean, (many, way, side), f"{sign}{many}{way}"))
        for first in (1, 2, 3, 4):
            for second in (1, 2, 3, 4):
                for way in "fb":
                    made.append((Cross, (first, second, way, side), f"{crossing}{first}{way}{second}"))
    for keeper in KEEPERS:
        made.append((Keep, (keeper,), f"h{keeper}"))
        made.append((Fetch, (keeper,), f"f{keeper}"))
    return made


def all_stitches():
    return [kind(*given) for kind, given, mark in all_made()]


def all_marks():
    return [mark for kind, given, mark in all_made()]


def made(marks):
    """The stitches of these marks, made without the program's own reading of marks."""
    return [MADE[mark][0](*MADE[mark][1]) for mark in marks]


def state(stitch):
    """All that a stitch answers of itself."""
    return (stitch.mark(), stitch.takes(), stitch.gives(), stitch.ties(), stitch.ends())


MADE = {mark: (kind, given) for kind, given, mark in all_made()}
NOUGHT = (0, 0, 0, 0, 0)


def plain(number):
    """The sum that is a plain number."""
    return (number, 0, 0, 0, 0)


def one(mark):
    """The part that is one stitch, made without the program's own reading of marks."""
    kind, given = MADE[mark]
    return ("one", kind(*given))


def ones(*marks):
    return [one(mark) for mark in marks]


def marked(thing):
    """The same lists and tuples, each stitch told by its mark, so that two of them can be compared."""
    if type(thing) is list:
        return [marked(part) for part in thing]
    if type(thing) is tuple:
        return tuple(marked(part) for part in thing)
    return thing.mark() if isinstance(thing, Stitch) else thing


def told_patterns():
    """A list of tuples (way, cast, items, text): patterns of points 9 and 10, with their texts written by hand."""
    return [
        ("flat", (3, 2, 0, 0, 0), [
            ("row", [one("k"), ("times", (0, 1, 0, 0, 0), ones("p", "k")), one("k2r")], False),
            ("block", plain(3), [
                ("row", [], False, ones("k"), []),
                ("row", ones("p"), True),
                ("row", ones("k"), False),
            ]),
            ("block", (1, 1, 0, 0, 0), [("row", ones("p"), False, ones("p"), ones("s"))]),
            ("row", [], False, ones("b"), []),
        ], "flat; cast 2a+3; row k, [p, k] a, k2r; 3 times (row rest [k]; row p turn; row k); "
           "a+1 times (row p, rest [p], s); row rest [b]"),
        ("round", NOUGHT, [("row", ones("o"), False)], "round; cast 0; row o"),
        ("flat", (0, 0, 0, 0, 1), [("row", ones("k"), True)], "flat; cast d; row k turn"),
        ("flat", (1, 1, 1, 1, 1), [
            ("row", [("times", (0, 0, 7, 0, 0), [one("k"), ("times", plain(2), [
                ("times", (4, 0, 0, 1, 0), ones("p", "kx2"))]), one("s")]), one("b")], True),
        ], "flat; cast a+b+c+d+1; row [k, [[p, kx2] c+4] 2, s] 7b, b turn"),
        ("round", plain(10), [
            ("row", [], False, [("times", NOUGHT, ones("k")), one("hw")], []),
            ("row", ones("fw"), False, ones("k"), []),
            ("row", [], False, ones("k"), ones("o", "fz")),
            ("row", [("times", plain(1), ones("p"))], False, ones("k", "c2f1"), [("times", plain(12), ones("q1b4"))]),
        ], "round; cast 10; row rest [[k] 0, hw]; row fw, rest [k]; row rest [k], o, fz; "
           "row [p] 1, rest [k, c2f1], [q1b4] 12"),
        ("flat", (0, 0, 2, 0, 0), [
            ("block", plain(1), [("block", (20, 0, 0, 0, 3), [
                ("block", (1, 0, 0, 1, 0), [("row", ones("s"), True)]),
                ("row", ones("p4l"), False),
            ]), ("row", ones("px4"), False)]),
        ], "flat; cast 2b; 1 times (3d+20 times (c+1 times (row s turn); row p4l); row px4)"),
        ("round", plain(1), [("row", ones(*all_marks()), False)],
         "round; cast 1; row " + ", ".join(all_marks())),
    ]


@contextlib.contextmanager
def at_once():
    """What is done within must be done in some seconds, where it could also go on for years."""
    def late(number, frame):
        raise AssertionError("this is not told at once")
    before = signal.signal(signal.SIGALRM, late)
    signal.alarm(20)
    try:
        yield
    finally:
        signal.alarm(0)
        signal.signal(signal.SIGALRM, before)


def number_of(one, choice):
    """What a sum comes to at a choice."""
    return one[0] + one[1] * choice[0] + one[2] * choice[1] + one[3] * choice[2] + one[4] * choice[3]


def taken_by(mark):
    if mark[0] in "of":
        return 0
    if mark[0] in "cq":
        return int(mark[1]) + int(mark[3])
    return int(mark[1]) if mark[-1] in "rl" else 1


def given_by(mark):
    if mark[0] in "bh":
        return 0
    if mark[0] in "cq":
        return int(mark[1]) + int(mark[3])
    return int(mark[2]) if mark[1:2] == "x" and mark[0] in "kp" else 1


def tally(parts, choice, often, found):
    """Adds to found what the parts, worked so often, take and give at a choice, and what each hw, fw .. of it does."""
    for part in parts:
        if part[0] == "one":
            mark = part[1].mark()
            found["takes"] += often * taken_by(mark)
            found["gives"] += often * given_by(mark)
            if mark[0] in "hf":
                found[mark] += often
        else:
            tally(part[2], choice, often * number_of(part[1], choice), found)


def marks_of(parts, choice):
    """The marks of all stitches of the parts at a choice, one by one."""
    marks = []
    for part in parts:
        if part[0] == "one":
            marks.append(part[1].mark())
        else:
            for turn in range(number_of(part[1], choice)):
                marks.extend(marks_of(part[2], choice))
    return marks


class Unfit(Exception):
    """The work by numbers does not go on: at a row and place just these two numbers stand against each other."""


class Curved(Exception):
    """A product is no sum: sizes are multiplied in it."""


def polynomial(one):
    return collections.Counter({"": one[0], "a": one[1], "b": one[2], "c": one[3], "d": one[4]})


def polynomials(parts):
    """From takes, gives and each hw, fw .. that stands in the parts to its count, as a polynomial of the sizes."""
    found = collections.defaultdict(collections.Counter)
    for part in parts:
        if part[0] == "one":
            mark = part[1].mark()
            found["takes"][""] += taken_by(mark)
            found["gives"][""] += given_by(mark)
            if mark[0] in "hf":
                found[mark][""] += 1
            continue
        for what, count in polynomials(part[2]).items():
            for (letters, number), (other, often) in itertools.product(count.items(), polynomial(part[1]).items()):
                if number * often and len(letters + other) > 1:
                    raise Curved()
                found[what][letters + other] += number * often
    return found


def sum_of_polynomial(count):
    return tuple(count[letters] for letters in ("", "a", "b", "c", "d"))


class NumberWork:
    """Point 14 with numbers in the place of sums, at a choice: told is (row, in hand, on the other needle) for each row
    that went well, as they were ahead of it; fault is (row, place, lies, asked), or None. Where each block is worked
    really, as often as its sum is worth, works is (row, marks, turn) for each row; where it is listing, too.
    """

    listing = False

    def __init__(self, pattern, choice, really=False):
        self.way, self.choice, self.really = pattern.way, choice, really
        self.hand, self.other = number_of(pattern.cast, choice), 0
        self.kept = dict.fromkeys(KEEPERS, 0)
        self.told, self.works, self.fault = [], [], None
        numbers = itertools.count()
        plan = self.numbered(pattern.things, numbers)
        try:
            self.go(plan)
            if self.hand + self.other > 0:
                raise Unfit(next(numbers), "end", self.hand + self.other, 0)
        except Unfit as unfit:
            self.fault = unfit.args

    def numbered(self, items, numbers):
        return [
            (next(numbers), item) if item[0] == "row" else (item[1], self.numbered(item[2], numbers)) for item in items
        ]

    def go(self, plan):
        for first, second in plan:
            if isinstance(first, int):
                self.row(first, second)
            elif self.really or not any(first[1:]):
                for turn in range(number_of(first, self.choice)):
                    self.go(second)
            else:
                ahead = self.piles()
                self.go(second)
                while not isinstance(second[0][0], int):
                    second = second[0][1]
                for lies, asked in zip(self.piles(), ahead):
                    if lies != asked:
                        raise Unfit(second[0][0], "block", lies, asked)

    def piles(self):
        return [self.hand, self.other] + [self.kept[keeper] for keeper in KEEPERS]

    def row(self, number, row):
        found = collections.Counter()
        tally(row[1] + (row[4] if len(row) == 5 else []), self.choice, 1, found)
        takes, often = found["takes"], 0
        if len(row) == 5:
            rest = collections.Counter()
            tally(row[3], self.choice, 1, rest)
            often, beyond = divmod(self.hand - takes, rest["takes"])
            fits = often >= 0 and beyond == 0
            tally(row[3], self.choice, often, found)
        else:
            fits = takes <= self.hand if row[2] else takes == self.hand
        if not fits:
            raise Unfit(number, "needle", self.hand, takes)
        self.keepers(number, found)
        self.told.append((number, self.hand, self.other))
        if self.really or self.listing:
            middle = marks_of(row[3], self.choice) * often + marks_of(row[4], self.choice) if len(row) == 5 else []
            self.works.append((number, marks_of(row[1], self.choice) + middle, row[2]))
        left = self.hand - found["takes"]
        if self.way == "flat":
            self.hand, self.other = self.other + found["gives"], left
        else:
            self.hand = found["gives"]

    def keepers(self, number, found):
        for keeper in KEEPERS:
            put, fetched = found["h" + keeper], found["f" + keeper]
            if (put or fetched) and fetched != self.kept[keeper]:
                raise Unfit(number, keeper, self.kept[keeper], fetched)
        for keeper in KEEPERS:
            if found["h" + keeper] or found["f" + keeper]:
                self.kept[keeper] = found["h" + keeper]


UNITS = [[0, 0, 0, 0], [1, 0, 0, 0], [0, 1, 0, 0], [0, 0, 1, 0], [0, 0, 0, 1]]


def sum_of(numbers):
    """The sum that comes to these numbers at no size and where one size is 1 and the others are 0."""
    return (numbers[0],) + tuple(max(number - numbers[0], 0) for number in numbers[1:])


class Drawn:
    """Draws patterns that go well for the most part. What lies behind the rows so far is found by working them."""

    # What takes 1, 2 or 3 loops and gives as many, and what gives others.
    STEADY = {1: (["k"], ["p"], ["s"]), 2: (["c1f1"], ["k2r", "o"], ["p", "k"], ["kx2", "b"]),
              3: (["q1b2"], ["k2l", "px2"], ["k3r", "o", "o"], ["s", "c1b1"])}
    UNSTEADY = {1: (["kx2"], ["b"], ["o", "k"], ["px4"]), 2: (["p2r"], ["k", "b"], ["kx3", "s"]),
                3: (["k3l"], ["kx2", "p2l"], ["c2f1", "o"], ["b", "b", "b"])}

    def __init__(self, seed):
        self.draw = random.Random(seed)
        self.text = ""

    def chance(self, many):
        return self.draw.randrange(many) == 0

    def pick(self, some):
        return self.draw.choice(some)

    def sum(self):
        great = self.pick((3, 3, 7, 7, 7, 10 ** 17))
        sized = [self.draw.randrange(great) if self.chance(2) else 0 for size in "abcd"]
        return tuple([self.draw.randrange(great)] + sized)

    def piles(self):
        """The sums on both needles and the keepers behind the rows so far."""
        works = [NumberWork(self.pattern(), choice) for choice in UNITS]
        return [sum_of(numbers) for numbers in zip(*[work.piles() for work in works])]

    def pattern(self):
        return Pattern(self.way, self.cast, self.top)

    def whole(self):
        """A pattern: some rows and blocks, and at the end, mostly, rows that cast off what lies."""
        self.way, self.cast, self.top = self.pick(("flat", "round")), self.sum(), []
        for turn in range(self.draw.randrange(1, 5)):
            drawn = self.block() if self.chance(3) else [self.row(False)]
            self.top.extend(drawn)
        for turn in range(0 if self.chance(8) else 2):
            self.top.append(("row", [], False, ones("b"), []))
        return self.pattern() if self.top else self.whole()

    def block(self):
        """A block of rows that leave what lay ahead of them, mostly; the rows stand at the top while it is drawn."""
        start = len(self.top)
        steady = not self.chance(6)
        for turn in range(self.draw.randrange(1, 4)):
            if self.chance(5):
                drawn = self.block()
            elif steady and self.chance(3):
                drawn = self.keeping()
            elif steady and self.way == "flat" and self.chance(3):
                drawn = self.turning()
            else:
                drawn = [self.row(steady)]
            self.top.extend(drawn)
        body, self.top = self.top[start:], self.top[:start]
        return [("block", self.pick((plain(1), plain(2), plain(3), (1, 1, 0, 0, 0), (2, 0, 3, 0, 1))), body)]

    def keeping(self):
        """Two rows, of which the first puts loops on a keeper and the second fetches them."""
        keeper, put = self.pick(KEEPERS), self.below(self.piles()[0])
        return [("row", [("times", put, ones("h" + keeper))], False, ones("k"), []),
                ("row", [("times", put, ones("f" + keeper))], False, ones("p"), [])]

    def turning(self):
        """A row that turns early, and one back over what it gave."""
        parts = self.worked(self.below(self.piles()[0]), self.STEADY)
        return [("row", parts or [("times", NOUGHT, ones("k"))], True), ("row", [], False, ones("s"), [])]

    def below(self, one):
        return tuple(self.draw.randrange(number + 1) if self.chance(2) else number for number in one)

    def row(self, steady):
        piles = self.piles()
        kinds = self.STEADY if steady or self.chance(2) else self.UNSTEADY
        turn = self.way == "flat" and not steady and self.chance(4)
        takes = self.below(piles[0]) if turn else piles[0]
        fetches = [] if steady else self.fetches(piles[2:])
        keeps = [] if steady or self.chance(2) else [self.pick(KEEPERS)]
        if turn or self.chance(2):
            parts = fetches + self.kept_parts(keeps, takes, kinds)
            return ("row", parts or [("times", NOUGHT, ones("k"))], turn)
        many = self.pick((1, 1, 2, 3))
        once = tuple(number % many + many * self.draw.randrange(min(3, number // many + 1)) for number in takes)
        rest = ones(*self.pick(kinds[many]))
        if keeps and self.chance(3):
            rest, keeps = ones(*["h" + keeps[0]] * many), []
        more = self.below(once)
        parts = tuple(number - less for number, less in zip(once, more))
        return ("row", fetches + self.kept_parts(keeps, parts, kinds), False, rest, self.worked(more, kinds))

    def fetches(self, kept):
        """Parts that fetch all from some keepers, for each that has something more often."""
        parts = []
        for keeper, lies in zip(KEEPERS, kept):
            if self.chance(2 if any(lies) else 12):
                parts.append(("times", lies, ones("f" + keeper)))
        return parts

    def kept_parts(self, keeps, takes, kinds):
        parts = []
        for keeper in keeps:
            put = self.below(takes)
            takes = tuple(number - less for number, less in zip(takes, put))
            parts.append(("times", put, ones("h" + keeper)))
        return parts + self.worked(takes, kinds)

    def worked(self, takes, kinds):
        """Parts that take just these loops."""
        parts = []
        for place, number in enumerate(takes):
            while number > 0:
                many = self.pick([many for many in (1, 2, 3) if many <= number])
                often = number // many if self.chance(2) else self.draw.randrange(1, number // many + 1)
                one_sum = tuple(often if at == place else 0 for at in range(5))
                parts.append(self.part(one_sum, ones(*self.pick(kinds[many]))))
                number -= many * often
                if len(parts) > 12 and number > 0:
                    parts.append(("times", tuple(number if at == place else 0 for at in range(5)), ones("k")))
                    number = 0
        self.draw.shuffle(parts)
        return parts

    def part(self, often, parts):
        """The parts so often, in one of several forms."""
        if often == plain(1) and len(parts) == 1:
            return parts[0]
        if self.chance(4):
            return ("times", plain(1), [("times", often, parts)])
        if self.chance(4) and not any(number % 2 for number in often):
            return ("times", plain(2), [("times", tuple(number // 2 for number in often), parts)])
        return ("times", often, parts)


MARK_FORM = r"(?<![a-z0-9])(?:[kp][234][rl]|[kp]x[234]|[cq][1-4][fb][1-4]|[hf][wxyz]|[kpsob])(?![a-z0-9])"
OTHER_MARKS = ("k", "s", "o", "b", "kx2", "p3l", "c1f1", "hw", "fw", "hx", "fx", "hy", "fy", "hz", "fz")


def changed_text(draw, text):
    """The text of a pattern with a mark, a number, a size, a row or a turn of it changed; often it is one still."""
    form, new = draw.choice((
        (MARK_FORM, draw.choice(OTHER_MARKS)),
        (r"[0-9]+", str(draw.randrange(6))),
        (r"(?<=[ 0-9+])[abcd](?![a-z0-9])", draw.choice("abcd")),
        (r"; row [^;()]*(?=;)", ""),
        (r"(?: turn)?(?=; row)", draw.choice(("", " turn"))),
    ))
    places = list(re.finditer(form, text))
    if not places:
        return text
    place = draw.choice(places)
    return text[:place.start()] + new + text[place.end():]


def refusal_of(asked, *given):
    """The class and the fields of a refusal, or None."""
    try:
        asked(*given)
    except StitchError as refusal:
        return (type(refusal), vars(refusal))
    return None


def spoil_web(web):
    """Changes every list of a web."""
    rows, lying, kept, off = web
    for row in rows:
        row.append("spoilt")
    for keeper, names in kept:
        names.reverse()
        names.append("spoilt")
    rows.reverse()
    rows.append([])
    kept.append("spoilt")
    for names in (lying, off):
        names.insert(0, "spoilt")


def read_or_none(text):
    try:
        return read(text)
    except NoPattern:
        return None


def seen_loops(mark, piece, back):
    """The new loops of a stitch over a piece of the cloth, all from the right as seen from the front; back tells
    whether the stitch is worked from the back.
    """
    side = 1 if mark[0] in "kc" else -1
    seen = -side if back else side
    if mark == "o":
        return [((), 0, 0)]
    if mark[0] in "cq":
        # The group to which the worker comes first is at the right of the piece, from the back at its left.
        first, second = int(mark[1]), int(mark[3])
        cut = second if back else first
        lift = 1 if mark[2] == "f" else -1
        return [((name,), seen, -lift) for name in piece[cut:]] + [((name,), seen, lift) for name in piece[:cut]]
    if mark[1:2] == "x":
        sides = [side * (1 - place % 2 * 2) for place in range(int(mark[2]))]
        return [((piece[0],), one_side, 0) for one_side in ([-one for one in sides[::-1]] if back else sides)]
    if len(mark) == 3:
        return [(tuple(piece[::-1] if mark[2] == "r" else piece), seen, 0)]
    return [((piece[0],), seen, 0)]


class FrontWork:
    """Points 18 to 21 from the front, by places: all that lies is one list from the right, and the tips of the needles
    meet at a place of it. A row from the back is gone through from its last stitch to its first.
    """

    def __init__(self, way, cast, web=None, names=()):
        self.way, self.back, self.meet = way, False, 0
        rows, lying, kept, off = web or ([], [], [], [])
        picked = [((), 0, 0)] * cast if web is None else [((name,), 1, 0) for name in names]
        self.rows = [list(row) for row in rows] + [picked]
        self.lying = [(len(rows), place) for place in range(len(picked))]
        self.kept, self.off = {keeper: list(put) for keeper, put in kept}, set(off)

    def hand(self):
        """How many loops lie on the left needle."""
        return self.meet if self.back else len(self.lying) - self.meet

    def lies_on(self, keeper):
        return len(self.kept.get(keeper, []))

    def fault(self, marks, turn=False):
        """What Miscount tells of a row that does not fit: (row, place, choice, lies, asked); else None."""
        takes = sum(taken_by(mark) for mark in marks)
        if takes > self.hand() or not turn and takes < self.hand():
            return (len(self.rows), "needle", [], self.hand(), takes)
        for keeper in KEEPERS:
            fetched = marks.count("f" + keeper)
            if (fetched or "h" + keeper in marks) and fetched != self.lies_on(keeper):
                return (len(self.rows), keeper, [], self.lies_on(keeper), fetched)
        return None

    def work(self, marks):
        """Works a row that fits."""
        takes = sum(taken_by(mark) for mark in marks)
        low = self.meet - takes if self.back else self.meet
        place, given, new = low, [], []
        before = {keeper: list(names) for keeper, names in self.kept.items()}
        for keeper in {mark[1] for mark in marks if mark[0] in "hf"}:
            self.kept[keeper] = []
        for mark in marks[::-1] if self.back else marks:
            piece = self.lying[place:place + taken_by(mark)]
            place += len(piece)
            if mark == "s":
                given.extend(piece)
            elif mark == "b":
                self.off.update(piece)
            elif mark[0] == "h":
                self.kept[mark[1]].extend(piece)
            elif mark[0] == "f":
                given.append(before[mark[1]].pop(0))
            else:
                for loop in seen_loops(mark, piece, self.back):
                    given.append((len(self.rows), len(new)))
                    new.append(loop)
        self.rows.append(new)
        self.lying[low:place] = given
        if self.way == "flat":
            self.meet = low if self.back else low + len(given)
            self.back = not self.back

    def web(self):
        kept = [(keeper, list(self.kept[keeper])) for keeper in KEEPERS if self.lies_on(keeper)]
        return ([list(row) for row in self.rows], list(self.lying), kept, sorted(self.off))


STITCH_KINDS = {
    "same": ("k", "p", "s"), "new": ("o",), "gone": ("b", "hw", "hx", "hy", "hz"),
    "lean": tuple(mark for mark in all_marks() if mark[0] in "kp" and mark[-1] in "rl"),
    "grow": tuple(mark for mark in all_marks() if mark[1:2] == "x" and mark[0] in "kp"),
    "cross": tuple(mark for mark in all_marks() if mark[0] in "cq"),
}


def drawn_marks(draw, work, turn=False):
    """A row of stitches that fits what lies in a FrontWork, by marks; with turn it takes some of it."""
    takes = draw.randrange(work.hand() + 1) if turn else work.hand()
    kinds = ["same", "same", "lean", "cross", "cross", "cross", "new", "grow", "gone"]
    if len(work.lying) > 24:
        kinds = ["same", "lean", "lean", "gone"]
    marks = []
    while takes > 0:
        fit = [mark for mark in STITCH_KINDS[draw.choice(kinds)] if taken_by(mark) <= takes]
        if fit:
            marks.append(draw.choice(fit))
            takes -= taken_by(marks[-1])
    if draw.randrange(4) == 0:
        marks.insert(draw.randrange(len(marks) + 1), "o")
    for keeper in KEEPERS:
        if "h" + keeper in marks or draw.randrange(3) == 0:
            for time in range(work.lies_on(keeper)):
                marks.insert(draw.randrange(len(marks) + 1), "f" + keeper)
    return marks


def drawn_work(draw, rows=8, way=None):
    """Rows that fit one another: a tuple (way, cast, list of tuples (marks, turn))."""
    way, cast = way or draw.choice(("flat", "round")), draw.randrange(12)
    work, drawn = FrontWork(way, cast), []
    for row in range(draw.randrange(rows)):
        turn = way == "flat" and draw.randrange(3) == 0
        marks = drawn_marks(draw, work, turn)
        work.work(marks)
        drawn.append((marks, turn))
    return (way, cast, drawn)


def ending_marks(draw, work):
    """A row that casts off all that lies on the left needle, or puts some of it on keepers that have nothing."""
    free = ["b"] + ["h" + keeper for keeper in KEEPERS if not work.lies_on(keeper)]
    return [draw.choice(free) for loop in range(work.hand())]


def names_of(web):
    return [(row, place) for row, loops in enumerate(web[0]) for place in range(len(loops))]


def kept_names(web):
    return [name for keeper, names in web[2] for name in names]


def drawn_names(draw, web):
    """Some names that may be picked up, in any order."""
    kept = kept_names(web)
    names = [name for name in names_of(web) if name not in kept]
    return draw.sample(names, draw.randrange(min(9, len(names)) + 1))


def changed_rows(draw, marks):
    """The row with a stitch more, one less, another one, a fetch more or less, and a loop kept."""
    more, keeper = draw.choice(("k", "s", "b", "k2r", "c1f1", "hw", "fz")), draw.choice(KEEPERS)
    place = draw.randrange(len(marks) + 1)
    found = [marks[:place] + [more] + marks[place:], marks[:place] + marks[place + 1:],
             marks[:place] + [more] + marks[place + 1:], marks[:place] + ["f" + keeper] + marks[place:]]
    for old, new in (("f", []), ("k", ["h" + keeper]), ("s", ["h" + keeper])):
        places = [place for place, mark in enumerate(marks) if mark[0] == old and (old == "f" or mark == old)]
        if places:
            place = draw.choice(places)
            found.append(marks[:place] + new + marks[place + 1:])
    return found + [found[0] + ["f" + keeper]]


def drawn_webs(seed, many):
    """Drawn webs of needles, each with what draws; some are ended, and begun again at some of their loops."""
    draw = random.Random(seed)
    for time in range(many):
        way, cast, rows = drawn_work(draw)
        needles, work = Needles(way, cast), FrontWork(way, cast)
        for marks, turn in rows:
            needles.work(made(marks), turn)
            work.work(marks)
        if draw.randrange(3) == 0:
            while work.lying:
                marks = ending_marks(draw, work)
                needles.work(made(marks))
                work.work(marks)
            names = drawn_names(draw, work.web())
            needles, work = Needles(way, 0, needles.web(), names), FrontWork(way, 0, work.web(), names)
            for row in range(draw.randrange(4)):
                marks = drawn_marks(draw, work)
                needles.work(made(marks))
                work.work(marks)
        yield draw, needles.web()


def parents_of(web, name):
    return web[0][name[0]][name[1]][0]


def held_names(web):
    return web[1] + kept_names(web) + web[3]


def plain_drawers(web):
    return {name: [other for other in names_of(web) if name in parents_of(web, other)] for name in names_of(web)}


def plain_fallen(web, names):
    """Point 23, over and over until nothing more comes undone."""
    above, held, fallen = plain_drawers(web), set(held_names(web)), set(names)
    while True:
        more = {name for name in above if name not in held and all(other in fallen for other in above[name])} - fallen
        if not more:
            return fallen
        fallen |= more


OTHER_SIGN = {"k": "p", "p": "k", "c": "q", "q": "c", "r": "l", "l": "r", "f": "b", "b": "f"}


def turned_mark(mark):
    """The mark of the turned stitch, by the last sentences of point 6."""
    if mark in ("k", "p") or mark[-1] in "rl" or mark in ("kx3", "px3"):
        return OTHER_SIGN[mark[0]] + mark[1:]
    if mark[0] in "cq":
        return OTHER_SIGN[mark[0]] + mark[:0:-1]
    return mark


def mirrored_mark(mark):
    """The mark of the mirrored stitch, likewise."""
    if mark[-1] in "rl":
        return mark[:2] + OTHER_SIGN[mark[2]]
    if mark in ("kx2", "kx4", "px2", "px4"):
        return OTHER_SIGN[mark[0]] + mark[1:]
    if mark[0] in "cq":
        return mark[0] + mark[3] + OTHER_SIGN[mark[2]] + mark[1]
    return mark


def front_marks(cast, rows):
    """Flat rows, tuples (marks, turn) that fit, told from the front: what is not taken is slipped where it lies."""
    work, front = FrontWork("flat", cast), []
    for marks, turn in rows:
        takes, lies = sum(taken_by(mark) for mark in marks), len(work.lying)
        low = work.meet - takes if work.back else work.meet
        middle = [turned_mark(mark) for mark in marks[::-1]] if work.back else marks
        front.append(["s"] * low + middle + ["s"] * (lies - low - takes))
        work.work(marks)
    return front


def round_web(cast, rows):
    """The web of rows of stitches worked round."""
    needles = Needles("round", cast)
    for row in rows:
        needles.work(row)
    return needles.web()


def plain_mirrored(web):
    """Point 30, by a table of all names."""
    rows, lying, kept, off = web
    new = {(row, place): (row, len(loops) - 1 - place) for row, loops in enumerate(rows) for place in range(len(loops))}
    found = [[None] * len(loops) for loops in rows]
    for (row, place), (same, there) in new.items():
        parents, side, lift = rows[row][place]
        found[same][there] = (tuple(new[name] for name in parents), side, lift)
    return (found, [new[name] for name in lying][::-1],
            [(keeper, [new[name] for name in names][::-1]) for keeper, names in kept],
            sorted(new[name] for name in off))


def plain_moves(cast, rows):
    """Point 33 by marks: the moves of rows that fit."""
    moves = [("cast", cast)]
    for marks in rows:
        x = y = 0
        for mark in marks:
            moves.extend(moves_of_mark(mark, x, y))
            x, y = x + taken_by(mark), y + given_by(mark)
        moves.append(("end",))
    return moves


def moves_of_mark(mark, x, y):
    side = 1 if mark[0] in "kc" else -1
    if mark in ("s", "o", "b"):
        return {"s": [("lay", x, y)], "o": [("over", y)], "b": [("off", x)]}[mark]
    if mark[0] in "hf":
        return [("keep", x, mark[1])] if mark[0] == "h" else [("fetch", mark[1], y)]
    if len(mark) == 1:
        return [("lay", x, y), ("draw", y, side, 0)]
    if mark[1] == "x":
        sides = (side, -side, side, -side)[:int(mark[2])]
        pairs = [[("lay", x, y + at), ("draw", y + at, sides[at], 0)] for at in range(len(sides))]
        return list(itertools.chain(*pairs))
    if mark[0] in "kp":
        hooks = list(range(x, x + int(mark[1])))
        return [("lay", hook, y) for hook in (hooks[::-1] if mark[2] == "r" else hooks)] + [("draw", y, side, 0)]
    first, second, lift = int(mark[1]), int(mark[3]), 1 if mark[2] == "f" else -1
    moves = []
    for at in range(second):
        moves += [("lay", x + first + at, y + at), ("draw", y + at, side, -lift)]
    for at in range(first):
        moves += [("lay", x + at, y + second + at), ("draw", y + second + at, side, lift)]
    return moves
