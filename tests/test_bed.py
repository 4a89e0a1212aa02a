"""The bed of hooks: promises [2], [3], [22], [31] and [32]."""

import collections
import itertools
import random
import unittest

from stitchroom.bed import hooked
from stitchroom.errors import Tangle
from stitchroom.holds import drawers
from stitchroom.moves import moves_of
from tests.helper import (
    KEEPERS, FrontWork, all_marks, drawn_work, given_by, held_names, kept_names, made, names_of, plain_moves, spoil_web,
    taken_by,
)

CAST_ON = ((), 0, 0)
END = ("end",)


class PlainBed:
    """Points 31 and 32 by looking back: of the row so far there is the list of its moves alone, and each question is
    answered from these.
    """

    def __init__(self, cast):
        self.rows = [[CAST_ON] * cast]
        self.near = {hook: (0, hook) for hook in range(cast)}
        self.kept, self.off, self.row = {}, [], []

    def of(self, *words):
        return [move for move in self.row if move[0] in words]

    def laid_on(self, x):
        """The far hooks on which the loop of a near hook was laid."""
        return [move[2] for move in self.of("lay") if move[1] == x]

    def is_gone(self, x):
        return x not in self.near or x in [move[1] for move in self.of("off", "keep")]

    def pile(self, y):
        return [move[1] for move in self.of("lay") if move[2] == y]

    def is_drawn(self, y):
        return y in [move[1] for move in self.of("draw", "over")]

    def is_fetched(self, y):
        return y in [move[2] for move in self.of("fetch")]

    def left_on(self, keeper):
        many = len([move for move in self.of("fetch") if move[1] == keeper])
        return self.kept.get(keeper, [])[many:]

    def named(self):
        return {move[2] for move in self.of("keep")} | {move[1] for move in self.of("fetch")}

    def fault(self, move):
        """Why a move is refused, in a word; None where it is let by."""
        word, given = move[0], move[1:]
        if word == "cast":
            return "later cast"
        if word in ("lay", "off", "keep") and self.is_gone(given[0]):
            return "no loop to " + word
        if word in ("off", "keep") and self.laid_on(given[0]):
            return word + " of a laid one"
        if word == "lay" and self.is_drawn(given[1]):
            return "lay on a new one"
        if word == "lay" and self.is_fetched(given[1]):
            return "lay on a fetched one"
        if word == "lay" and given[1] in self.laid_on(given[0]):
            return "laid twice"
        if word == "draw" and (not self.pile(given[0]) or self.is_drawn(given[0])):
            return "draw without a pile"
        if word in ("over", "fetch"):
            y = given[-1]
            if self.pile(y) or self.is_drawn(y) or self.is_fetched(y):
                return word + " on a hook with something"
        if word == "fetch" and not self.left_on(given[0]):
            return "nothing to fetch"
        return self.end_fault() if word == "end" else None

    def end_fault(self):
        for x in self.near:
            if not self.laid_on(x) and not self.is_gone(x):
                return "end with a loop left"
        for y in {move[2] for move in self.of("lay")}:
            if not self.is_drawn(y) and len(self.pile(y)) > 1:
                return "end with a pile"
            if not self.is_drawn(y) and len(self.laid_on(self.pile(y)[0])) > 1:
                return "end with a loop laid elsewhere"
        return "end with a keeper's loop" if any(self.left_on(keeper) for keeper in self.named()) else None

    def do(self, move):
        """Does a move that is let by."""
        if move != END:
            self.row.append(move)
            return
        near, new = {}, {}
        for word, *given in self.row:
            if word == "lay":
                near[given[1]] = self.near[given[0]]
            elif word == "draw":
                new[given[0]] = (tuple(self.near[x] for x in self.pile(given[0])), given[1], given[2])
            elif word == "over":
                new[given[0]] = CAST_ON
            elif word == "off":
                self.off.append(self.near[given[0]])
            elif word == "fetch":
                near[given[1]] = self.kept[given[0]].pop(0)
        for keeper in self.named():
            self.kept[keeper] = [self.near[x] for word, x, there in self.of("keep") if there == keeper]
        for place, hook in enumerate(sorted(new)):
            near[hook] = (len(self.rows), place)
        self.rows.append([new[hook] for hook in sorted(new)])
        self.near, self.row = near, []

    def web(self):
        kept = [(keeper, self.kept[keeper]) for keeper in KEEPERS if self.kept.get(keeper)]
        return (self.rows, [self.near[hook] for hook in sorted(self.near)], kept, sorted(self.off))


def plain_hooked(moves):
    """A web, or a tuple (number of the move, why) where the moves are refused."""
    if not moves:
        return (0, "no move")
    if moves[0][0] != "cast":
        return (0, "first is no cast")
    bed = PlainBed(moves[0][1])
    for number, move in enumerate(moves[1:], 1):
        fault = bed.fault(move)
        if fault:
            return (number, fault)
        bed.do(move)
    return (len(moves), "no end") if bed.row else bed.web()


class Hooked(unittest.TestCase):
    def is_web(self, moves, rows, lying, kept=(), off=()):
        """The moves make the web with these rows behind what was cast on."""
        handed = list(moves)
        web = hooked(moves)
        self.check_kinds(web)
        self.assertEqual(web[0][1:], rows)
        self.assertEqual(web[0][0], [CAST_ON] * moves[0][1])
        self.assertEqual(web[1:], (lying, list(kept), list(off)))
        self.assertEqual(moves, handed)

    def check_kinds(self, web):
        self.assertEqual((type(web), [type(part) for part in web]), (tuple, [list] * 4))
        for row in web[0]:
            self.assertIs(type(row), list)
            for loop in row:
                self.assertEqual((type(loop), [type(part) for part in loop]), (tuple, [tuple, int, int]))
        for each in web[2]:
            self.assertEqual([type(part) for part in each], [str, list])
        for name in names_of(web):
            self.assertIs(type(name), tuple)

    def is_refused(self, moves, number):
        handed = list(moves)
        with self.assertRaises(Tangle) as refusal:
            hooked(moves)
        self.assertEqual((type(refusal.exception.move), refusal.exception.move), (int, number))
        self.assertEqual(moves, handed)

    def check(self, moves):
        """The moves make the web, or are refused, as by the second working; tells which."""
        told = plain_hooked(moves)
        if len(told) == 2:
            self.is_refused(moves, told[0])
            return told[1]
        self.assertEqual(hooked(moves), told)
        self.check_held(told)
        return "web"

    def check_held(self, web):
        """Each loop has a drawer, or is held at the end; what lies or is kept has none."""
        found = drawers(web)
        for name in web[1] + kept_names(web):
            self.assertEqual(found[name], [])
        self.assertEqual([name for name in found if not found[name] and name not in held_names(web)], [])


class TestRows(Hooked):
    """The web of the moves of rows is the web of round work."""

    def test_by_hand(self):
        self.is_web([("cast", 2)], [], [(0, 0), (0, 1)])
        self.is_web([("cast", 0)], [], [])
        self.is_web([("cast", 0), END, END], [[], []], [])
        self.is_web([("cast", 2), ("lay", 0, 0), ("draw", 0, 1, 0), ("lay", 1, 1), END], [[(((0, 0),), 1, 0)]],
                    [(1, 0), (0, 1)])
        self.is_web([("cast", 3), ("lay", 1, 0), ("lay", 0, 0), ("draw", 0, -1, 0), ("off", 2), ("over", 1), END],
                    [[(((0, 1), (0, 0)), -1, 0), ((), 0, 0)]], [(1, 0), (1, 1)], [], [(0, 2)])
        self.is_web([("cast", 3), ("keep", 0, "x"), ("lay", 1, 0), ("keep", 2, "x"), END,
                     ("fetch", "x", 0), ("off", 0), ("fetch", "x", 1), END],
                    [[], []], [(0, 0), (0, 2)], [], [(0, 1)])

    def test_every_stitch(self):
        for mark in all_marks():
            put = ["h" + mark[1]] * 2 if mark[0] == "f" else []
            first = put + ["s"] * (2 * taken_by(mark))
            rows = [first, [mark] * 2, ["k"] * (2 * given_by(mark))]
            self.check_rows(len(first), rows)

    def check_rows(self, cast, rows):
        work = FrontWork("round", cast)
        for many in range(len(rows) + 1):
            self.assertEqual(hooked(moves_of(cast, [made(marks) for marks in rows[:many]])), work.web())
            self.assertEqual(hooked(plain_moves(cast, rows[:many])), work.web())
            if many < len(rows):
                work.work(rows[many])
        self.assertEqual(self.check(plain_moves(cast, rows)), "web")

    def test_drawn_rows(self):
        draw = random.Random(50)
        seen = collections.Counter()
        for time in range(250):
            way, cast, work = drawn_work(draw, way="round")
            rows = [marks for marks, turn in work]
            self.check_rows(cast, rows)
            seen.update(mark for marks in rows for mark in marks)
        self.assertEqual(set(seen), set(all_marks()))

    def test_by_names_of_the_interface(self):
        self.assertEqual(hooked(moves=[("cast", 1)]), ([[CAST_ON]], [(0, 0)], [], []))

    def test_told_webs_are_the_asker_s_own(self):
        moves = plain_moves(4, [["hw", "b", "k", "p"], ["fw", "hx", "hx"], ["s"]])
        web = hooked(moves)
        before = str(web)
        spoil_web(web)
        self.assertEqual(str(hooked(moves)), before)
        web = hooked(moves)
        moves.clear()
        self.assertEqual(str(web), before)

    def test_as_many_as_are_let_by(self):
        moves = plain_moves(1500, [["k"] * 1500, ["b"] * 1500])
        self.is_web(moves, [[(((0, place),), 1, 0) for place in range(1500)], []], [], [],
                    [(1, place) for place in range(1500)])


class TestRefused(Hooked):
    """Each refusal of point 32 alone: with one move changed or left out, the moves are let by."""

    def test_no_move(self):
        self.is_refused([], 0)

    def test_the_first_is_no_cast(self):
        for move in (("lay", 0, 0), ("draw", 0, 1, 0), ("over", 0), ("off", 0), ("keep", 0, "w"), ("fetch", "w", 0),
                     END):
            self.is_refused([move], 0)
            self.is_refused([move, END], 0)
            self.is_refused([move, ("cast", 1)], 0)

    def test_a_later_cast(self):
        self.is_refused([("cast", 1), ("cast", 1)], 1)
        self.is_refused([("cast", 0), ("cast", 0)], 1)
        self.is_refused([("cast", 1), ("lay", 0, 0), ("cast", 0), END], 2)
        self.is_refused([("cast", 1), ("lay", 0, 0), END, ("cast", 1)], 3)

    def test_a_near_hook_without_a_loop(self):
        for move in (("lay", 1, 1), ("off", 1), ("keep", 1, "y"), ("lay", 7, 1), ("off", 10 ** 30), ("keep", 2, "w")):
            self.is_refused([("cast", 1), move], 1)
            self.is_refused([("cast", 1), ("lay", 0, 0), move, END], 2)
        for move in (("lay", 0, 0), ("off", 0), ("keep", 0, "z")):
            self.is_refused([("cast", 0), move], 1)
            # The loop hangs on the hook 2 behind the first row, not on 0.
            self.is_refused([("cast", 1), ("lay", 0, 2), END, move], 3)
            self.is_refused([("cast", 1), ("off", 0), END, move], 3)

    def test_a_far_hook_is_no_near_one(self):
        for move in (("lay", 1, 2), ("off", 1), ("keep", 1, "w")):
            self.is_refused([("cast", 1), ("lay", 0, 0), ("over", 1), move], 3)

    def test_cast_off_or_kept_ahead(self):
        for first, second in itertools.product((("off", 0), ("keep", 0, "w")),
                                               (("off", 0), ("keep", 0, "w"), ("keep", 0, "x"), ("lay", 0, 0))):
            self.is_refused([("cast", 2), first, second], 2)
            self.is_refused([("cast", 2), first, ("lay", 1, 1), second, END], 3)
            self.is_web([("cast", 2), first, ("lay", 1, 1), END], [[]], [(0, 1)],
                        [("w", [(0, 0)])] if first[0] == "keep" else [], [(0, 0)] if first[0] == "off" else [])

    def test_laid_ahead(self):
        for move in (("off", 0), ("keep", 0, "w"), ("keep", 0, "z")):
            self.is_refused([("cast", 1), ("lay", 0, 0), move], 2)
            self.is_refused([("cast", 1), ("lay", 0, 0), ("draw", 0, 1, 0), move, END], 3)
            # What was laid in another row is another matter.
            self.assertEqual(self.check([("cast", 1), ("lay", 0, 0), END, move, END]), "web")

    def test_laid_on_a_new_loop(self):
        self.is_refused([("cast", 2), ("lay", 0, 0), ("draw", 0, 1, 0), ("lay", 1, 0)], 3)
        self.is_refused([("cast", 2), ("lay", 0, 0), ("draw", 0, 1, 0), ("lay", 0, 0)], 3)
        self.is_refused([("cast", 2), ("over", 3), ("lay", 1, 3), END], 2)

    def test_laid_on_a_fetched_loop(self):
        self.is_refused([("cast", 2), ("keep", 0, "w"), ("lay", 1, 0), END, ("fetch", "w", 1), ("lay", 0, 1)], 5)

    def test_laid_twice_on_a_pile(self):
        self.is_refused([("cast", 1), ("lay", 0, 0), ("lay", 0, 0)], 2)
        self.is_refused([("cast", 2), ("lay", 0, 0), ("lay", 1, 0), ("lay", 0, 0), ("draw", 0, 1, 0), END], 3)
        self.assertEqual(self.check([("cast", 1), ("lay", 0, 0), ("lay", 0, 1), ("draw", 0, 1, 0), ("draw", 1, 1, 0),
                                     END]), "web")

    def test_drawn_without_a_pile(self):
        self.is_refused([("cast", 1), ("draw", 0, 1, 0)], 1)
        self.is_refused([("cast", 1), ("lay", 0, 0), ("draw", 1, 1, 0), END], 2)
        self.is_refused([("cast", 1), ("lay", 0, 0), ("draw", 0, 1, 0), ("draw", 0, 1, 0), END], 3)
        self.is_refused([("cast", 1), ("lay", 0, 0), ("over", 1), ("draw", 1, 1, 0), END], 3)
        self.is_refused([("cast", 1), ("keep", 0, "x"), END, ("fetch", "x", 0), ("draw", 0, 1, 0), END], 4)

    def test_on_a_hook_that_is_not_empty(self):
        start = [("cast", 3), ("keep", 2, "y"), ("lay", 0, 0), ("lay", 1, 1), END]
        for row in ([("lay", 0, 0)], [("lay", 0, 0), ("lay", 1, 0)], [("lay", 0, 0), ("draw", 0, 1, 0)], [("over", 0)]):
            self.is_refused(start + row + [("over", 0), END], 5 + len(row))
            self.is_refused(start + row + [("fetch", "y", 0), END], 5 + len(row))
        self.is_refused(start + [("fetch", "y", 0), ("over", 0), END], 6)
        two = [("cast", 2), ("keep", 0, "y"), ("keep", 1, "y"), END, ("fetch", "y", 4)]
        self.is_refused(two + [("fetch", "y", 4), END], 5)
        self.is_web(two + [("fetch", "y", 5), END], [[], []], [(0, 0), (0, 1)])

    def test_a_keeper_with_none_left(self):
        self.is_refused([("cast", 0), ("fetch", "w", 0)], 1)
        # What is put on it in this row can't be fetched in this row.
        self.is_refused([("cast", 1), ("keep", 0, "w"), ("fetch", "w", 0), END], 2)
        self.is_refused([("cast", 1), ("keep", 0, "w"), END, ("fetch", "w", 0), ("fetch", "w", 1), END], 4)
        self.is_refused([("cast", 1), ("keep", 0, "w"), END, ("fetch", "x", 0), END], 3)
        self.is_refused([("cast", 1), ("keep", 0, "w"), END, ("fetch", "w", 0), END, ("fetch", "w", 0)], 5)

    def test_an_end_with_a_loop_left_on_a_near_hook(self):
        self.is_refused([("cast", 1), END], 1)
        self.is_refused([("cast", 2), ("lay", 0, 0), END], 2)
        self.is_refused([("cast", 1), ("lay", 0, 3), END, ("over", 3), END], 4)
        self.is_refused([("cast", 1), ("over", 0), END], 2)

    def test_an_end_with_a_pile(self):
        self.is_refused([("cast", 2), ("lay", 0, 0), ("lay", 1, 0), END], 3)
        self.is_refused([("cast", 3), ("lay", 0, 0), ("lay", 1, 1), ("lay", 2, 1), ("draw", 0, 1, 0), END], 5)

    def test_an_end_with_a_loop_that_was_laid_on_another_hook_too(self):
        self.is_refused([("cast", 1), ("lay", 0, 0), ("lay", 0, 1), END], 3)
        self.is_refused([("cast", 1), ("lay", 0, 0), ("lay", 0, 1), ("draw", 0, 1, 0), END], 4)
        self.is_refused([("cast", 1), ("lay", 0, 0), ("draw", 0, 1, 0), ("lay", 0, 1), END], 4)
        self.is_refused([("cast", 2), ("lay", 0, 0), ("lay", 1, 0), ("draw", 0, 1, 0), ("lay", 1, 1), END], 5)

    def test_an_end_with_a_loop_left_on_a_keeper(self):
        start = [("cast", 4), ("keep", 0, "x"), ("keep", 1, "x"), ("lay", 2, 0), ("lay", 3, 1), END]
        keep, lay = ("keep", 0, "x"), ("lay", 0, 0)
        self.is_refused(start + [keep, ("lay", 1, 1), END], 8)
        self.is_refused(start + [lay, ("lay", 1, 1), ("fetch", "x", 2), END], 9)
        self.is_refused(start + [keep, ("fetch", "x", 0), ("lay", 1, 1), END], 9)
        # A keeper that the row does not name may have what it has.
        self.is_web(start + [("keep", 0, "w"), ("lay", 1, 1), END], [[], []], [(0, 3)],
                    [("w", [(0, 2)]), ("x", [(0, 0), (0, 1)])])
        self.is_web(start + [keep, ("fetch", "x", 3), ("lay", 1, 1), ("fetch", "x", 2), END], [[], []],
                    [(0, 3), (0, 1), (0, 0)], [("x", [(0, 2)])])

    def test_moves_without_an_end(self):
        self.is_refused([("cast", 1), ("lay", 0, 0)], 2)
        self.is_refused([("cast", 0), ("over", 0)], 2)
        self.is_refused([("cast", 1), ("lay", 0, 0), END, ("off", 0)], 4)
        self.is_refused([("cast", 1), ("keep", 0, "w"), END, ("fetch", "w", 0)], 4)

    def test_the_first_that_is_refused(self):
        self.is_refused([("cast", 1), ("lay", 0, 0), ("off", 0), ("cast", 1), END], 2)
        self.is_refused([("cast", 1), ("off", 1), ("lay", 0, 0)], 1)
        self.is_refused([END, ("off", 1)], 0)


class TestLetBy(Hooked):
    """Moves that no row makes."""

    def test_hooks_left_empty_between_others(self):
        self.is_web([("cast", 2), ("lay", 0, 3), ("lay", 1, 10 ** 20), ("draw", 10 ** 20, 1, 0), ("over", 5), END,
                     ("lay", 5, 9), ("draw", 9, -1, 0), ("off", 3), ("lay", 10 ** 20, 2), END],
                    [[((), 0, 0), (((0, 1),), 1, 0)], [(((1, 0),), -1, 0)]], [(1, 1), (2, 0)], [], [(0, 0)])

    def test_hooks_in_another_order(self):
        self.is_web([("cast", 3), ("lay", 2, 0), ("lay", 0, 2), ("draw", 2, 1, 0), ("lay", 1, 1), ("draw", 1, -1, 0),
                     END], [[(((0, 1),), -1, 0), (((0, 0),), 1, 0)]], [(0, 2), (1, 0), (1, 1)])

    def test_piles_laid_in_another_order(self):
        self.is_web([("cast", 3), ("lay", 1, 0), ("lay", 2, 0), ("lay", 0, 0), ("draw", 0, 1, 0), END],
                    [[(((0, 1), (0, 2), (0, 0)), 1, 0)]], [(1, 0)])
        self.is_web([("cast", 4), ("lay", 3, 1), ("lay", 1, 0), ("lay", 0, 1), ("lay", 2, 0), ("draw", 1, 1, 0),
                     ("draw", 0, -1, 0), END],
                    [[(((0, 1), (0, 2)), -1, 0), (((0, 3), (0, 0)), 1, 0)]], [(1, 0), (1, 1)])

    def test_many_loops_and_signs(self):
        moves = [("cast", 9)] + [("lay", x, 0) for x in range(9)] + [("draw", 0, -1, 1), END]
        self.is_web(moves, [[(tuple((0, x) for x in range(9)), -1, 1)]], [(1, 0)])
        moves = [("cast", 1)] + [("lay", 0, y) for y in range(9)] + [("draw", y, 1, -1) for y in range(9)] + [END]
        self.is_web(moves, [[(((0, 0),), 1, -1)] * 9], [(1, y) for y in range(9)])

    def test_a_loop_in_several_piles(self):
        self.is_web([("cast", 3), ("lay", 0, 0), ("lay", 1, 0), ("lay", 1, 1), ("lay", 2, 1), ("draw", 0, 1, 0),
                     ("draw", 1, 1, 0), END],
                    [[(((0, 0), (0, 1)), 1, 0), (((0, 1), (0, 2)), 1, 0)]], [(1, 0), (1, 1)])

    def test_what_is_kept_lies_in_the_order_of_the_moves(self):
        start = [("cast", 3), ("keep", 2, "w"), ("keep", 0, "w"), ("keep", 1, "w"), END]
        self.is_web(start, [[]], [], [("w", [(0, 2), (0, 0), (0, 1)])])
        self.is_web(start + [("fetch", "w", 7), ("fetch", "w", 1), ("fetch", "w", 4), END], [[], []],
                    [(0, 0), (0, 1), (0, 2)])

    def test_keepers_are_told_in_their_order_and_off_by_names(self):
        self.is_web([("cast", 6), ("keep", 0, "z"), ("keep", 1, "x"), ("keep", 2, "w"), ("keep", 3, "y"), ("off", 5),
                     ("off", 4), END], [[]], [],
                    [("w", [(0, 2)]), ("x", [(0, 1)]), ("y", [(0, 3)]), ("z", [(0, 0)])], [(0, 4), (0, 5)])

    def test_new_loops_get_their_places_by_hooks(self):
        self.is_web([("cast", 1), ("over", 8), ("over", 2), ("lay", 0, 5), ("draw", 5, 1, 0), END],
                    [[((), 0, 0), (((0, 0),), 1, 0), ((), 0, 0)]], [(1, 0), (1, 1), (1, 2)])
        # The names are those of the row's end, whatever was drawn first.
        self.is_web([("cast", 2), ("lay", 1, 1), ("draw", 1, 1, 0), ("lay", 0, 0), ("draw", 0, -1, 0), END, ("off", 0),
                     ("lay", 1, 0), END], [[(((0, 0),), -1, 0), (((0, 1),), 1, 0)], []], [(1, 1)], [], [(1, 0)])


def renamed(draw, moves):
    """The same moves with the far hooks of each row numbered anew, some left out, mostly in another order, and the near
    hooks of the next row likewise.
    """
    found, near = [moves[0]], {hook: hook for hook in range(moves[0][1])}
    far = draw.sample(range(60), 60)
    for move in moves[1:]:
        word = move[0]
        if word == "end":
            near, far = dict(enumerate(far)), draw.sample(range(60), 60)
            found.append(move)
        elif word == "lay":
            found.append((word, near[move[1]], far[move[2]]))
        elif word in ("draw", "over"):
            found.append((word, far[move[1]]) + move[2:])
        elif word == "fetch":
            found.append((word, move[1], far[move[2]]))
        else:
            found.append((word, near[move[1]]) + move[2:])
    return found


def drawn_move(draw):
    x, y, keeper = draw.randrange(4), draw.randrange(4), draw.choice("wwxyz")
    draws = ("draw", y, draw.choice((1, -1)), draw.choice((1, 0, -1)))
    return draw.choice((("lay", x, y), ("lay", x, y), draws, ("over", y), ("off", x), ("keep", x, keeper),
                        ("keep", x, keeper), ("fetch", keeper, y), ("fetch", keeper, y), END, END))


class TestDrawnMoves(Hooked):
    def test_rows_with_hooks_numbered_anew(self):
        draw = random.Random(51)
        for time in range(300):
            way, cast, work = drawn_work(draw, way="round")
            moves = renamed(draw, plain_moves(cast, [marks for marks, turn in work]))
            self.assertEqual(self.check(moves), "web")

    def test_spoilt_moves_of_rows(self):
        draw = random.Random(52)
        seen = collections.Counter()
        for time in range(500):
            way, cast, work = drawn_work(draw, way="round", rows=5)
            moves = plain_moves(cast, [marks for marks, turn in work])
            for spoilt in self.spoilt(draw, moves):
                seen[self.check(spoilt)] += 1
        self.assertGreater(seen["web"], 300, seen)
        self.assertEqual(len(seen), 21, seen)

    def spoilt(self, draw, moves):
        """The moves with one more, one less, one twice, two exchanged, one changed, and cut off."""
        at, other = draw.randrange(len(moves)), draw.randrange(len(moves))
        swapped = list(moves)
        swapped[at], swapped[other] = moves[other], moves[at]
        nearby = list(moves)
        nearby[at - 1:at + 1] = nearby[at - 1:at + 1][::-1]
        yield from (moves[:at] + moves[at + 1:], moves[:at] + [moves[at]] + moves[at:], moves[:at], swapped, nearby,
                    moves[:at] + [drawn_move(draw)] + moves[at:], moves[:at] + [drawn_move(draw)] + moves[at + 1:])
        changed = [part + draw.choice((1, -1)) if type(part) is int and part > 0 else part for part in moves[at][1:]]
        yield moves[:at] + [moves[at][:1] + tuple(changed)] + moves[at + 1:]

    def test_drawn_moves(self):
        draw = random.Random(53)
        seen = collections.Counter()
        for time in range(4000):
            moves = [("cast", draw.randrange(4))]
            bed = PlainBed(moves[0][1])
            for step in range(draw.randrange(30)):
                move = self.mostly_let_by(draw, bed)
                moves.append(move)
                if bed.fault(move):
                    break
                bed.do(move)
            else:
                moves.extend(self.to_the_end(draw, bed))
            seen[self.check(moves)] += 1
        words = {"web", "no end", "later cast", "no loop to lay", "no loop to off", "no loop to keep",
                 "off of a laid one", "keep of a laid one", "lay on a new one", "lay on a fetched one", "laid twice",
                 "draw without a pile", "over on a hook with something", "fetch on a hook with something",
                 "nothing to fetch", "end with a loop left", "end with a pile", "end with a loop laid elsewhere",
                 "end with a keeper's loop"}
        self.assertEqual(set(seen), words)
        self.assertGreater(min(seen.values()), 3, seen)

    def mostly_let_by(self, draw, bed):
        for time in range(20):
            move = drawn_move(draw)
            if not bed.fault(move) or draw.randrange(60) == 0:
                return move
        return draw.choice((("cast", 1), END, drawn_move(draw)))

    def to_the_end(self, draw, bed):
        """Moves that bring most rows to their end."""
        if draw.randrange(5) == 0:
            return []
        moves = []
        for x in list(bed.near):
            if not bed.laid_on(x) and not bed.is_gone(x):
                moves.append(("off", x))
        for y in sorted({move[2] for move in bed.of("lay")}):
            if not bed.is_drawn(y):
                moves.append(("draw", y, 1, 0))
        for keeper in sorted(bed.named()):
            for place, name in enumerate(bed.left_on(keeper)):
                moves.append(("fetch", keeper, 10 + 10 * KEEPERS.index(keeper) + place))
        return moves + [END]

    def test_all_short_lists(self):
        seen = collections.Counter()
        some = [("cast", 1), ("lay", 0, 0), ("lay", 1, 0), ("lay", 0, 1), ("draw", 0, 1, 0), ("over", 0), ("off", 0),
                ("keep", 0, "w"), ("fetch", "w", 0), ("fetch", "w", 1), END]
        for cast, many in itertools.product((0, 1, 2), (0, 1, 2, 3)):
            for moves in itertools.product(some, repeat=many):
                seen[self.check([("cast", cast)] + list(moves))] += 1
        self.assertGreater(seen["web"], 20, seen)


if __name__ == "__main__":
    unittest.main()
