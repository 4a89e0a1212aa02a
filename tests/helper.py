"""What several test files need: all stitches of point 5, one by one, and patterns with their texts."""

from stitchroom.stitches import Cross, Fetch, Grow, Keep, Lean, Off, Over, Plain, Slip, Stitch

SIDES = (1, -1)
KEEPERS = ("w", "x", "y", "z")


def all_made():
    """A list of tuples (class, arguments, mark), for each stitch that point 5 lets be."""
    made = [(Slip, (), "s"), (Over, (), "o"), (Off, (), "b")]
    for side, sign, crossing in ((1, "k", "c"), (-1, "p", "q")):
        made.append((Plain, (side,), sign))
        for many in (2, 3, 4):
            made.append((Grow, (many, side), f"{sign}x{many}"))
            for way in "rl":
                made.append((Lean, (many, way, side), f"{sign}{many}{way}"))
        for first in (1, 2, 3, 4):
            for second in (1, 2, 3, 4):
                for way in "fb":
                    made.append((Cross, (first, second, way, side), f"{crossing}{first}{way}{second}"))
    for keeper in KEEPERS:
        made.append((Keep, (keeper,), f"h{keeper}"))
        made.append((Fetch, (keeper,), f"f{keeper}"))
    return made


def all_stitches():
    return [kind(*given) for kind, given, mark in all_made()]


def all_marks():
    return [mark for kind, given, mark in all_made()]


def state(stitch):
    """All that a stitch answers of itself."""
    return (stitch.mark(), stitch.takes(), stitch.gives(), stitch.ties(), stitch.ends())


MADE = {mark: (kind, given) for kind, given, mark in all_made()}
NOUGHT = (0, 0, 0, 0, 0)


def plain(number):
    """The sum that is a plain number."""
    return (number, 0, 0, 0, 0)


def one(mark):
    """The part that is one stitch, made without the program's own reading of marks."""
    kind, given = MADE[mark]
    return ("one", kind(*given))


def ones(*marks):
    return [one(mark) for mark in marks]


def marked(thing):
    """The same lists and tuples, each stitch told by its mark, so that two of them can be compared."""
    if type(thing) is list:
        return [marked(part) for part in thing]
    if type(thing) is tuple:
        return tuple(marked(part) for part in thing)
    return thing.mark() if isinstance(thing, Stitch) else thing


def told_patterns():
    """A list of tuples (way, cast, items, text): patterns of points 9 and 10, with their texts written by hand."""
    return [
        ("flat", (3, 2, 0, 0, 0), [
            ("row", [one("k"), ("times", (0, 1, 0, 0, 0), ones("p", "k")), one("k2r")], False),
            ("block", plain(3), [
                ("row", [], False, ones("k"), []),
                ("row", ones("p"), True),
                ("row", ones("k"), False),
            ]),
            ("block", (1, 1, 0, 0, 0), [("row", ones("p"), False, ones("p"), ones("s"))]),
            ("row", [], False, ones("b"), []),
        ], "flat; cast 2a+3; row k, [p, k] a, k2r; 3 times (row rest [k]; row p turn; row k); "
           "a+1 times (row p, rest [p], s); row rest [b]"),
        ("round", NOUGHT, [("row", ones("o"), False)], "round; cast 0; row o"),
        ("flat", (0, 0, 0, 0, 1), [("row", ones("k"), True)], "flat; cast d; row k turn"),
        ("flat", (1, 1, 1, 1, 1), [
            ("row", [("times", (0, 0, 7, 0, 0), [one("k"), ("times", plain(2), [
                ("times", (4, 0, 0, 1, 0), ones("p", "kx2"))]), one("s")]), one("b")], True),
        ], "flat; cast a+b+c+d+1; row [k, [[p, kx2] c+4] 2, s] 7b, b turn"),
        ("round", plain(10), [
            ("row", [], False, [("times", NOUGHT, ones("k")), one("hw")], []),
            ("row", ones("fw"), False, ones("k"), []),
            ("row", [], False, ones("k"), ones("o", "fz")),
            ("row", [("times", plain(1), ones("p"))], False, ones("k", "c2f1"), [("times", plain(12), ones("q1b4"))]),
        ], "round; cast 10; row rest [[k] 0, hw]; row fw, rest [k]; row rest [k], o, fz; "
           "row [p] 1, rest [k, c2f1], [q1b4] 12"),
        ("flat", (0, 0, 2, 0, 0), [
            ("block", plain(1), [("block", (20, 0, 0, 0, 3), [
                ("block", (1, 0, 0, 1, 0), [("row", ones("s"), True)]),
                ("row", ones("p4l"), False),
            ]), ("row", ones("px4"), False)]),
        ], "flat; cast 2b; 1 times (3d+20 times (c+1 times (row s turn); row p4l); row px4)"),
        ("round", plain(1), [("row", ones(*all_marks()), False)],
         "round; cast 1; row " + ", ".join(all_marks())),
    ]
