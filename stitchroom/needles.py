"""Two needles and four keepers, on which rows of stitches are worked, flat or round, to a web of loops."""

from stitchroom.errors import Miscount
from stitchroom.rows import rows_at
from stitchroom.stitches import KEEPERS
from stitchroom.sums import worth


class Needles:
    """What lies on the needles and the keepers, and all loops so far.

    The tip of each needle is the end of its list. What lies on a keeper is told from the right as seen from the front.
    """

    def __init__(self, way, cast, web=None, names=None):
        self.way = way
        self.front = True
        if web is None:
            self.rows = [[((), 0, 0) for place in range(cast)]]
            self.kept = {}
            self.off = []
        else:
            self.rows = [list(row) for row in web[0]] + [[((name,), 1, 0) for name in names]]
            self.kept = dict([(keeper, list(lying)) for keeper, lying in web[2]])
            self.off = list(web[3])
        self.left = list(reversed(new_names(len(self.rows) - 1, len(self.rows[-1]))))
        self.right = []

    def work(self, stitches, turn=False):
        """Works a row and tells how many loops lie then; refused with Miscount where it does not fit what lies."""
        fetches = fetches_of(stitches)
        self.refuse_misfit(stitches, turn, fetches)
        names = self.in_order(new_names(len(self.rows), new_many(stitches)))
        supply = dict([(keeper, self.in_order(self.lying_on(keeper))) for keeper in fetches])
        course = Course(names, supply)
        for stitch in stitches:
            self.work_stitch(stitch, course)
        self.rows.append(self.in_order(course.loops))
        for keeper in fetches:
            self.kept[keeper] = self.in_order(course.put[keeper])
        self.make_ready()
        return len(self.left) + len(self.right)

    def web(self):
        """The web of what was worked so far: a tuple (rows, lying, kept, off)."""
        rows = [list(row) for row in self.rows]
        lying = self.in_order(self.right + list(reversed(self.left)))
        kept = [(keeper, list(self.kept[keeper])) for keeper in KEEPERS if self.lying_on(keeper)]
        return (rows, lying, kept, sorted(self.off))

    def lying_on(self, keeper):
        return self.kept.get(keeper, [])

    def refuse_misfit(self, stitches, turn, fetches):
        number = len(self.rows)
        lies = len(self.left)
        takes = sum([stitch.takes() for stitch in stitches])
        if takes > lies or (takes < lies and not turn):
            raise Miscount(number, "needle", [], lies, takes)
        for keeper in KEEPERS:
            lies = len(self.lying_on(keeper))
            if keeper in fetches and fetches[keeper] != lies:
                raise Miscount(number, keeper, [], lies, fetches[keeper])

    def work_stitch(self, stitch, course):
        taken = [self.left.pop() for place in range(stitch.takes())]
        for tie in stitch.ties():
            if tie[0] == "same":
                self.right.append(taken[tie[1]])
            elif tie[0] == "from":
                self.right.append(course.supply[tie[1]].pop(0))
            else:
                self.right.append(course.names[len(course.loops)])
                course.loops.append(self.seen(tie, taken))
        for place, word in stitch.ends():
            pile = self.off if word == "off" else course.put[word]
            pile.append(taken[place])

    def seen(self, tie, taken):
        """The loop that a tie draws through taken loops, as seen from the front."""
        parents = self.in_order([taken[place] for place in tie[1]])
        sign = 1 if self.front else -1
        return (tuple(parents), sign * tie[2], sign * tie[3])

    # From the front a row is worked from its right end on, from the back from its left end on.
    def in_order(self, some):
        """Things in the order of the work as they are told from the right as seen from the front, and back again."""
        return list(some) if self.front else list(reversed(some))

    def make_ready(self):
        """Brings the needles to where the next row begins."""
        if self.way == "round":
            self.left = list(reversed(self.right))
            self.right = []
        else:
            not_taken = self.left
            self.left = self.right
            self.right = not_taken
            self.front = not self.front


class Course:
    """A row while it is worked, all in the order of the work: the names of its new loops, and what is still to come
    from the keepers; its new loops so far, and what it put on the keepers.
    """

    def __init__(self, names, supply):
        self.names = names
        self.supply = supply
        self.loops = []
        self.put = dict([(keeper, []) for keeper in supply])


def knitted(pattern, choice):
    """The web of a pattern at a choice of sizes; refused as rows_at refuses."""
    rows = rows_at(pattern, choice)
    needles = Needles(pattern.way, worth(pattern.cast, choice))
    for number, stitches, turn in rows:
        needles.work(stitches, turn)
    return needles.web()


def new_names(row, many):
    """The names of so many new loops of a row, from the right as seen from the front."""
    return [(row, place) for place in range(many)]


def new_many(stitches):
    many = 0
    for stitch in stitches:
        many += len([tie for tie in stitch.ties() if tie[0] == "new"])
    return many


def fetches_of(stitches):
    """From each keeper that the stitches name to the number of loops that they fetch from it."""
    fetches = {}
    for stitch in stitches:
        for tie in stitch.ties():
            if tie[0] == "from":
                fetches[tie[1]] = fetches.get(tie[1], 0) + 1
        for place, word in stitch.ends():
            if word != "off":
                fetches[word] = fetches.get(word, 0)
    return fetches
