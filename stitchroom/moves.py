"""The moves on the bed of hooks that make rows told from the front."""

from stitchroom.needles import Needles


def moves_of(cast, rows):
    """The moves of a number cast on and of the rows; refused with Miscount as round work is."""
    needles = Needles("round", cast)
    moves = [("cast", cast)]
    for stitches in rows:
        needles.work(stitches)
        moves.extend(row_moves(stitches))
    return moves


def row_moves(stitches):
    moves = []
    near = 0
    far = 0
    for stitch in stitches:
        moves.extend(stitch_moves(stitch, near, far))
        near += stitch.takes()
        far += stitch.gives()
    return moves + [("end",)]


def stitch_moves(stitch, near, far):
    """The moves of a stitch, of which these are the first near hook and the first far one."""
    moves = []
    for place, tie in enumerate(stitch.ties()):
        moves.extend(tie_moves(tie, near, far + place))
    return moves + [end_move(end, near) for end in stitch.ends()]


def tie_moves(tie, near, far):
    """The moves by which the far hook gets the loop of a tie."""
    if tie[0] == "same":
        return [("lay", near + tie[1], far)]
    if tie[0] == "from":
        return [("fetch", tie[1], far)]
    if not tie[1]:
        return [("over", far)]
    return [("lay", near + parent, far) for parent in tie[1]] + [("draw", far, tie[2], tie[3])]


def end_move(end, near):
    if end[1] == "off":
        return ("off", near + end[0])
    return ("keep", near + end[0], end[1])
