"""Patterns: a way of working, a sum of loops cast on, and items."""


class Pattern:
    """A pattern of rows and blocks, worked flat or round."""

    def __init__(self, way, cast, items):
        self.way = way
        self.cast = cast
        self.things = own_copy(items)


# Rows, blocks and parts hold lists too, so what is done to one of these later must not reach the pattern either.
def own_copy(thing):
    """The same thing, with new lists in the place of all its lists."""
    if isinstance(thing, list):
        return [own_copy(part) for part in thing]
    if isinstance(thing, tuple):
        return tuple([own_copy(part) for part in thing])
    return thing
