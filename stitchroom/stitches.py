"""The nine stitches: what each takes, gives, ties and ends, its mark, and how it is worked mirrored or turned."""

KEEPERS = ("w", "x", "y", "z")
SIDE_SIGNS = {1: "k", -1: "p"}
CROSS_SIGNS = {1: "c", -1: "q"}
OTHER_LEAN_WAY = {"r": "l", "l": "r"}
OTHER_CROSS_WAY = {"f": "b", "b": "f"}


class Stitch:
    """The base of all stitches. Most of them have no ends and some no ties, so it answers none for these."""

    def ties(self):
        return []

    def ends(self):
        return []


class Plain(Stitch):
    """One new loop through one."""

    def __init__(self, side):
        self.side = side

    def takes(self):
        return 1

    def gives(self):
        return 1

    def ties(self):
        return [("new", (0,), self.side, 0)]

    def mark(self):
        return SIDE_SIGNS[self.side]

    def mirrored(self):
        return Plain(self.side)

    def turned(self):
        return Plain(-self.side)


class Slip(Stitch):
    """One loop, given on as it is."""

    def takes(self):
        return 1

    def gives(self):
        return 1

    def ties(self):
        return [("same", 0)]

    def mark(self):
        return "s"

    def mirrored(self):
        return Slip()

    def turned(self):
        return Slip()


class Over(Stitch):
    """A new loop through none."""

    def takes(self):
        return 0

    def gives(self):
        return 1

    def ties(self):
        return [("new", (), 0, 0)]

    def mark(self):
        return "o"

    def mirrored(self):
        return Over()

    def turned(self):
        return Over()


class Lean(Stitch):
    """One new loop through several; the way tells which of these is in front."""

    def __init__(self, many, way, side):
        self.many = many
        self.way = way
        self.side = side

    def takes(self):
        return self.many

    def gives(self):
        return 1

    def ties(self):
        if self.way == "r":
            parents = tuple(range(self.many - 1, -1, -1))
        else:
            parents = tuple(range(self.many))
        return [("new", parents, self.side, 0)]

    def mark(self):
        return SIDE_SIGNS[self.side] + str(self.many) + self.way

    def mirrored(self):
        return Lean(self.many, OTHER_LEAN_WAY[self.way], self.side)

    def turned(self):
        return Lean(self.many, self.way, -self.side)


class Grow(Stitch):
    """Several new loops through one, of the two sides in turns."""

    def __init__(self, many, side):
        self.many = many
        self.side = side

    def takes(self):
        return 1

    def gives(self):
        return self.many

    def ties(self):
        return [("new", (0,), self.side if place % 2 == 0 else -self.side, 0) for place in range(self.many)]

    def mark(self):
        return SIDE_SIGNS[self.side] + "x" + str(self.many)

    # Told in the contrary order an odd number of loops begins with the side with which it began, an even one does not.
    def mirrored(self):
        return Grow(self.many, self.side if self.many % 2 == 1 else -self.side)

    def turned(self):
        return Grow(self.many, -self.side if self.many % 2 == 1 else self.side)


class Cross(Stitch):
    """Two groups of loops change places, one passing in front of the other; a new loop through each loop."""

    def __init__(self, first, second, way, side):
        self.first = first
        self.second = second
        self.way = way
        self.side = side

    def takes(self):
        return self.first + self.second

    def gives(self):
        return self.first + self.second

    def ties(self):
        lift = 1 if self.way == "f" else -1
        later = [("new", (place,), self.side, -lift) for place in range(self.first, self.first + self.second)]
        former = [("new", (place,), self.side, lift) for place in range(self.first)]
        return later + former

    def mark(self):
        return CROSS_SIGNS[self.side] + str(self.first) + self.way + str(self.second)

    def mirrored(self):
        return Cross(self.second, self.first, OTHER_CROSS_WAY[self.way], self.side)

    def turned(self):
        return Cross(self.second, self.first, self.way, -self.side)


class Off(Stitch):
    """One loop, cast off."""

    def takes(self):
        return 1

    def gives(self):
        return 0

    def ends(self):
        return [(0, "off")]

    def mark(self):
        return "b"

    def mirrored(self):
        return Off()

    def turned(self):
        return Off()


class Keep(Stitch):
    """One loop, put on a keeper."""

    def __init__(self, keeper):
        self.keeper = keeper

    def takes(self):
        return 1

    def gives(self):
        return 0

    def ends(self):
        return [(0, self.keeper)]

    def mark(self):
        return "h" + self.keeper

    def mirrored(self):
        return Keep(self.keeper)

    def turned(self):
        return Keep(self.keeper)


class Fetch(Stitch):
    """A loop from a keeper."""

    def __init__(self, keeper):
        self.keeper = keeper

    def takes(self):
        return 0

    def gives(self):
        return 1

    def ties(self):
        return [("from", self.keeper)]

    def mark(self):
        return "f" + self.keeper

    def mirrored(self):
        return Fetch(self.keeper)

    def turned(self):
        return Fetch(self.keeper)
