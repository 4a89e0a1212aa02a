"""What several test files need: all stitches of point 5, one by one."""

from stitchroom.stitches import Cross, Fetch, Grow, Keep, Lean, Off, Over, Plain, Slip

SIDES = (1, -1)
KEEPERS = ("w", "x", "y", "z")


def all_made():
    """A list of tuples (class, arguments, mark), for each stitch that point 5 lets be."""
    made = [(Slip, (), "s"), (Over, (), "o"), (Off, (), "b")]
    for side, sign, crossing in ((1, "k", "c"), (-1, "p", "q")):
        made.append((Plain, (side,), sign))
        for many in (2, 3, 4):
            made.append((Grow, (many, side), f"{sign}x{many}"))
            for way in "rl":
                made.append((Lean, (many, way, side), f"{sign}{many}{way}"))
        for first in (1, 2, 3, 4):
            for second in (1, 2, 3, 4):
                for way in "fb":
                    made.append((Cross, (first, second, way, side), f"{crossing}{first}{way}{second}"))
    for keeper in KEEPERS:
        made.append((Keep, (keeper,), f"h{keeper}"))
        made.append((Fetch, (keeper,), f"f{keeper}"))
    return made


def all_stitches():
    return [kind(*given) for kind, given, mark in all_made()]


def all_marks():
    return [mark for kind, given, mark in all_made()]


def state(stitch):
    """All that a stitch answers of itself."""
    return (stitch.mark(), stitch.takes(), stitch.gives(), stitch.ties(), stitch.ends())
