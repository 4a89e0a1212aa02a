"""The stitch of a mark."""

from stitchroom.errors import NoStitch
from stitchroom.stitches import KEEPERS, Cross, Fetch, Grow, Keep, Lean, Off, Over, Plain, Slip

SIDES = {"k": 1, "p": -1}
CROSS_SIDES = {"c": 1, "q": -1}
LEAN_WAYS = ("r", "l")
CROSS_WAYS = ("f", "b")
MANY = {"2": 2, "3": 3, "4": 4}
CROSSED = {"1": 1, "2": 2, "3": 3, "4": 4}


def stitch(mark):
    """The stitch that has this mark; refused with NoStitch where none has."""
    found = stitch_of_text(mark) if isinstance(mark, str) else None
    if found is None:
        raise NoStitch("no stitch has this mark")
    return found


def stitch_of_text(text):
    """The stitch that has the text as its mark, or None."""
    size = len(text)
    if size == 1:
        return bare_stitch(text)
    if size == 2:
        return keeper_stitch(text[0], text[1])
    if size == 3:
        return sided_stitch(text[0], text[1], text[2])
    if size == 4:
        return crossing(text[0], text[1], text[2], text[3])
    return None


def bare_stitch(sign):
    if sign in SIDES:
        return Plain(SIDES[sign])
    if sign == "s":
        return Slip()
    if sign == "o":
        return Over()
    if sign == "b":
        return Off()
    return None


def keeper_stitch(sign, keeper):
    if keeper not in KEEPERS:
        return None
    if sign == "h":
        return Keep(keeper)
    if sign == "f":
        return Fetch(keeper)
    return None


def sided_stitch(sign, middle, last):
    if sign not in SIDES:
        return None
    if middle == "x" and last in MANY:
        return Grow(MANY[last], SIDES[sign])
    if middle in MANY and last in LEAN_WAYS:
        return Lean(MANY[middle], last, SIDES[sign])
    return None


def crossing(sign, first, way, second):
    if sign in CROSS_SIDES and first in CROSSED and way in CROSS_WAYS and second in CROSSED:
        return Cross(CROSSED[first], CROSSED[second], way, CROSS_SIDES[sign])
    return None
