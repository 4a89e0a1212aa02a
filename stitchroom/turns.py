"""Rows and webs turned about: worked from the other side, mirrored, and told from the front."""

from stitchroom.needles import Needles
from stitchroom.stitches import Slip


def turned_row(stitches):
    """The row as it is worked from the other side."""
    return [stitch.turned() for stitch in reversed(stitches)]


def mirrored_row(stitches):
    return [stitch.mirrored() for stitch in reversed(stitches)]


def to_flat(rows):
    """Rows told from the front, as they are worked flat: each second one from the back."""
    return [turned_row(row) if number % 2 == 1 else list(row) for number, row in enumerate(rows)]


def front_of(cast, rows):
    """Flat rows, tuples (stitches, turn), told from the front without early turns; refused with Miscount."""
    needles = Needles("flat", cast)
    front = []
    for stitches, turn in rows:
        front.append(front_row(needles, stitches, turn))
    return front


def front_row(needles, stitches, turn):
    """Works a flat row and tells it from the front, with a slip for each loop that it did not take."""
    from_front = needles.front
    ahead = [Slip()] * len(needles.right)
    needles.work(stitches, turn)
    # The needles are exchanged behind the row, so what it did not take lies on the right one now.
    behind = [Slip()] * len(needles.right)
    return ahead + list(stitches) + behind if from_front else behind + turned_row(stitches) + ahead


def mirrored_web(web):
    """The web as a mirror shows it: in each row the places are counted from the other end."""
    sizes = [len(row) for row in web[0]]
    rows = [mirrored_loops(row, sizes) for row in web[0]]
    kept = [(keeper, contrary_names(names, sizes)) for keeper, names in web[2]]
    return (rows, contrary_names(web[1], sizes), kept, sorted(mirrored_names(web[3], sizes)))


def mirrored_loops(row, sizes):
    """The loops of a row in the contrary order, drawn through the mirrored parents."""
    return [(tuple(mirrored_names(loop[0], sizes)), loop[1], loop[2]) for loop in reversed(row)]


def mirrored_names(names, sizes):
    """The names in their order, each as the mirror shows it."""
    return [(row, sizes[row] - 1 - place) for row, place in names]


def contrary_names(names, sizes):
    return mirrored_names(list(reversed(names)), sizes)
