"""What holds a web: which loops are drawn through which, what comes undone where loops are let fall, and its edges."""

from stitchroom.errors import NotLying


def drawers(web):
    """From each name to the list of the names of the loops that are drawn through it."""
    found = dict([(name, []) for name in names_downward(web)])
    for number, row in enumerate(web[0]):
        for place, loop in enumerate(row):
            for parent in loop[0]:
                found[parent].append((number, place))
    return found


def undone(web, names):
    """The names of the loops that come undone where these are let fall, the last row first, in each row by places."""
    return list(fallen_of(web, names))


def way_up(web, names, name):
    """The way by drawers that do not come undone, up to a loop that is held at the end; None of one that comes undone.

    These names are let fall. The way begins at the one name.
    """
    fallen = fallen_of(web, names)
    above = drawers(web)
    held = held_of(web)
    if name not in above:
        raise NotLying("no loop has this name")
    if name in fallen:
        return None
    way = [name]
    while way[-1] not in held:
        way.append([drawer for drawer in above[way[-1]] if drawer not in fallen][0])
    return way


def edge(web, last=False):
    """The names of the first loop of each row that has loops, or of the last one."""
    return [(number, len(row) - 1 if last else 0) for number, row in enumerate(web[0]) if row]


def names_downward(web):
    """All names, the last row first, in each row by places."""
    names = []
    for number in range(len(web[0]) - 1, -1, -1):
        names.extend([(number, place) for place in range(len(web[0][number]))])
    return names


def held_of(web):
    """A dict of the loops that are held at the end."""
    held = web[1] + web[3]
    for keeper, names in web[2]:
        held = held + names
    return marked_names(held)


def marked_names(names):
    return dict([(name, True) for name in names])


# A loop is drawn through in later rows alone, so on the way down all of its drawers are known.
def fallen_of(web, names):
    """A dict of the loops that come undone, in the order in which they are told."""
    lying = marked_names(web[1])
    for name in names:
        if name not in lying:
            raise NotLying("a loop is let fall that does not lie on a needle")
    above = drawers(web)
    held = held_of(web)
    let_fall = marked_names(names)
    fallen = {}
    for name in names_downward(web):
        if name in let_fall or (name not in held and all([drawer in fallen for drawer in above[name]])):
            fallen[name] = True
    return fallen
