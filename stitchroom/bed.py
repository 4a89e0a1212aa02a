"""The bed of hooks, on which moves make a web."""

from stitchroom.errors import Tangle
from stitchroom.stitches import KEEPERS


class Bed:
    """What hangs on the hooks and lies on the keepers, and all loops so far.

    A near hook has the name of its loop. A far hook that is not empty has ("pile", near hooks of the loops laid there),
    ("new", loop) or ("fetched", name).
    """

    def __init__(self, cast):
        self.rows = [[((), 0, 0) for place in range(cast)]]
        self.near = dict([(place, (0, place)) for place in range(cast)])
        self.kept = {}
        self.off = []
        self.begin_row()

    def begin_row(self):
        """Nothing is on the far hooks, laid, gone for good or put on a keeper in this row yet."""
        self.far = {}
        self.laid = {}
        self.gone = {}
        self.put = {}

    def web(self):
        """The web of what was made up to the last row's end."""
        lying = [self.near[hook] for hook in sorted(self.near)]
        kept = [(keeper, list(self.kept[keeper])) for keeper in KEEPERS if self.kept.get(keeper, [])]
        return ([list(row) for row in self.rows], lying, kept, sorted(self.off))

    def on_far(self, hook):
        """The word of what a far hook has, or None."""
        return self.far[hook][0] if hook in self.far else None

    def has_loop(self, hook):
        """Whether a near hook has a loop that was not cast off or kept in this row."""
        return hook in self.near and hook not in self.gone

    # The methods that do moves tell whether the move is let by; one that is not may leave anything behind, since the
    # whole bed is given up then.
    def lay(self, hook, onto):
        if not self.has_loop(hook) or self.on_far(onto) not in (None, "pile"):
            return False
        pile = self.far.setdefault(onto, ("pile", []))[1]
        if hook in pile:
            return False
        pile.append(hook)
        self.laid[hook] = self.laid.get(hook, 0) + 1
        return True

    def draw(self, hook, side, lift):
        if self.on_far(hook) != "pile":
            return False
        parents = tuple([self.near[laid] for laid in self.far[hook][1]])
        self.far[hook] = ("new", (parents, side, lift))
        return True

    def throw_over(self, hook):
        if hook in self.far:
            return False
        self.far[hook] = ("new", ((), 0, 0))
        return True

    def cast_off(self, hook):
        return self.put_away(hook, self.off)

    def keep(self, hook, keeper):
        return self.put_away(hook, self.put.setdefault(keeper, []))

    def put_away(self, hook, pile):
        if not self.has_loop(hook) or hook in self.laid:
            return False
        self.gone[hook] = True
        pile.append(self.near[hook])
        return True

    # What is fetched is gone from the keeper at once, so what is left there at the row's end was not fetched.
    def fetch(self, keeper, hook):
        if hook in self.far or not self.kept.get(keeper, []):
            return False
        self.far[hook] = ("fetched", self.kept[keeper].pop(0))
        self.put.setdefault(keeper, [])
        return True

    def end_row(self):
        if not self.may_end():
            return False
        near = {}
        loops = []
        for hook in sorted(self.far):
            near[hook] = self.name_on_far(hook, len(loops))
            if self.on_far(hook) == "new":
                loops.append(self.far[hook][1])
        self.near = near
        self.rows.append(loops)
        self.kept.update(self.put)
        self.begin_row()
        return True

    def may_end(self):
        """Whether each loop has gone to just one place or is drawn through, and each named keeper is fetched empty."""
        all_gone = all([hook in self.laid or hook in self.gone for hook in self.near])
        all_even = all([self.is_even(hook) for hook in self.far])
        return all_gone and all_even and not any([self.kept.get(keeper, []) for keeper in self.put])

    def is_even(self, hook):
        """Whether a far hook has no pile, or one of a single loop that was laid nowhere else."""
        if self.on_far(hook) != "pile":
            return True
        pile = self.far[hook][1]
        return len(pile) == 1 and self.laid[pile[0]] == 1

    def name_on_far(self, hook, place):
        """The name of the one loop of a far hook; a new one gets this place in its row."""
        if self.on_far(hook) == "pile":
            return self.near[self.far[hook][1][0]]
        return (len(self.rows), place) if self.on_far(hook) == "new" else self.far[hook][1]


def hooked(moves):
    """The web that the moves make; refused with Tangle at the first that can't be done, or where one is wanting."""
    if not moves or moves[0][0] != "cast":
        raise Tangle(0)
    bed = Bed(moves[0][1])
    for number, move in enumerate(moves):
        if number > 0 and not is_done(bed, move):
            raise Tangle(number)
    if moves[-1][0] not in ("cast", "end"):
        raise Tangle(len(moves))
    return bed.web()


def is_done(bed, move):
    """Does a move behind the cast where it is let by, and tells whether it is."""
    word = move[0]
    if word == "lay":
        return bed.lay(move[1], move[2])
    if word == "draw":
        return bed.draw(move[1], move[2], move[3])
    if word == "over":
        return bed.throw_over(move[1])
    if word == "off":
        return bed.cast_off(move[1])
    if word == "keep":
        return bed.keep(move[1], move[2])
    if word == "fetch":
        return bed.fetch(move[1], move[2])
    return word == "end" and bed.end_row()
