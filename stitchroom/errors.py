"""The refusals of the program, each under StitchError and none under another one."""


class StitchError(ValueError):
    """Any refusal."""


class NoStitch(StitchError):
    """What should be the mark of a stitch is none."""


class NoSum(StitchError):
    """What should come to a sum does not; row is the number of the row where it happens, None where none is told."""

    def __init__(self, row=None):
        StitchError.__init__(self, "no sum is told" if row is None else f"no sum is told at row {row}")
        self.row = row


class NoPattern(StitchError):
    """What should be the text of a pattern is none."""


class TooMany(StitchError):
    """There are more rows or stitches than are let by."""


class Miscount(StitchError):
    """At a row and place, and at a choice of sizes, what lies there is not what is asked."""

    # The counts stay out of the words: Python refuses to write very long numbers as text.
    def __init__(self, row, place, choice, lies, asked):
        StitchError.__init__(self, f"the counts do not agree at row {row} ({place})")
        self.row = row
        self.place = place
        self.choice = list(choice)
        self.lies = lies
        self.asked = asked


class NotLying(StitchError):
    """A loop that should lie on a needle, or be there at all, does not."""


class NoChart(StitchError):
    """What should be a chart is none."""


class Tangle(StitchError):
    """A move on the bed of hooks can't be done; move is its number in the list."""

    def __init__(self, move):
        StitchError.__init__(self, f"the moves tangle at move {move}")
        self.move = move


class NoRow(StitchError):
    """What is said to the desk is no row that it knows."""


class NoName(StitchError):
    """No pattern is kept at the desk by this name."""


class NoPlace(StitchError):
    """A cloth at the desk has no such row, or no loop lies at this place."""
