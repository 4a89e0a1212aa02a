"""What holds a web: promises [2], [3] and [22] to [25]."""

import collections
import copy
import unittest

from stitchroom.errors import NotLying
from stitchroom.holds import drawers, edge, undone, way_up
from stitchroom.needles import Needles, knitted
from stitchroom.reader import read
from tests.helper import (
    drawn_webs, held_names, kept_names, made, names_of, parents_of, plain_drawers, plain_fallen, spoil_web,
)

CAST_ON = ((), 0, 0)


def knit(*parents):
    """A new loop through these, drawn to the front."""
    return (parents, 1, 0)


def small_web():
    """Four loops cast on, of which the last is cast off. Row 1: one loop through the first two, one through the third.
    Row 2 has none. Row 3: two loops through the first of row 1, and one through none. Of row 3 the first is kept and
    the other two lie. Row 4: one through the second of row 1, which is cast off.
    """
    return (
        [[CAST_ON] * 4, [knit((0, 1), (0, 0)), knit((0, 2))], [], [knit((1, 0)), knit((1, 0)), CAST_ON],
         [knit((1, 1))]],
        [(3, 1), (3, 2)], [("x", [(3, 0)])], [(0, 3), (4, 0)],
    )


def tree_web(lying, off=()):
    """Two loops cast on; row 1: three through the first, one through the second; row 2: one through the first two of
    row 1, one through the third, one through the last. What does not lie and is not cast off is kept.
    """
    rows = [[CAST_ON] * 2, [knit((0, 0)), knit((0, 0)), knit((0, 0)), knit((0, 1))],
            [knit((1, 1), (1, 0)), knit((1, 2)), knit((1, 3))]]
    kept = [(2, place) for place in range(3) if (2, place) not in list(lying) + list(off)]
    return (rows, list(lying), [("w", kept)] if kept else [], list(off))


def safe_names(web, names):
    """Downward from all that is held and not let fall: what these are drawn through, and so on."""
    safe = set(held_names(web)) - set(names)
    waiting = list(safe)
    while waiting:
        for parent in parents_of(web, waiting.pop()):
            if parent not in safe:
                safe.add(parent)
                waiting.append(parent)
    return safe


def plain_way(above, held, fallen, name):
    if name in fallen:
        return None
    if name in held:
        return [name]
    return [name] + plain_way(above, held, fallen, min(other for other in above[name] if other not in fallen))


class TestDrawers(unittest.TestCase):
    def test_by_hand(self):
        self.assertEqual(drawers(small_web()), {
            (0, 0): [(1, 0)], (0, 1): [(1, 0)], (0, 2): [(1, 1)], (0, 3): [], (1, 0): [(3, 0), (3, 1)],
            (1, 1): [(4, 0)], (3, 0): [], (3, 1): [], (3, 2): [], (4, 0): []})
        self.assertEqual(drawers(tree_web([])), {
            (0, 0): [(1, 0), (1, 1), (1, 2)], (0, 1): [(1, 3)], (1, 0): [(2, 0)], (1, 1): [(2, 0)], (1, 2): [(2, 1)],
            (1, 3): [(2, 2)], (2, 0): [], (2, 1): [], (2, 2): []})

    def test_no_loops(self):
        self.assertEqual(drawers(([[]], [], [], [])), {})
        self.assertEqual(drawers(([[], [], []], [], [], [])), {})

    def test_in_the_order_of_their_names(self):
        cloth = knitted(read("round; cast 1; row kx4; row p, kx2, k, px3; row rest [b]"), [0, 0, 0, 0])
        picked = Needles("round", 0, cloth, [(0, 0), (1, 0), (1, 1)])
        picked.work(made(["k", "p", "k"]))
        found = drawers(picked.web())
        self.assertEqual(found[(0, 0)], [(1, 0), (1, 1), (1, 2), (1, 3), (4, 0)])
        self.assertEqual(found[(1, 0)], [(2, 0), (4, 1)])
        self.assertEqual(found[(1, 1)], [(2, 1), (2, 2), (4, 2)])
        self.assertEqual(found[(1, 3)], [(2, 4), (2, 5), (2, 6)])
        self.assertEqual(found[(4, 2)], [(5, 2)])

    def test_drawn_webs(self):
        for draw, web in drawn_webs(1, 200):
            before = copy.deepcopy(web)
            found = drawers(web)
            self.assertEqual(found, plain_drawers(web))
            self.assertEqual({type(names) for names in found.values()} | {list}, {list})
            self.assertEqual(web, before)
            for name in web[1] + kept_names(web):
                self.assertEqual(found[name], [])
            for name in names_of(web):
                self.assertTrue(found[name] or name in held_names(web))

    def test_told_dicts_are_the_asker_s_own(self):
        web = small_web()
        found = drawers(web)
        for names in found.values():
            names.append("spoilt")
        found.clear()
        self.assertEqual((drawers(web), web), (plain_drawers(small_web()), small_web()))
        found = drawers(web)
        spoil_web(web)
        self.assertEqual(found, plain_drawers(small_web()))


class TestUndone(unittest.TestCase):
    def is_undone(self, web, names, told):
        found = undone(web, names)
        self.assertIs(type(found), list)
        self.assertEqual(found, told)

    def test_by_hand(self):
        self.is_undone(small_web(), [], [])
        self.is_undone(small_web(), [(3, 2)], [(3, 2)])
        # The first loop of row 1 is held by a kept one still.
        self.is_undone(small_web(), [(3, 1)], [(3, 1)])
        self.is_undone(small_web(), [(3, 2), (3, 1)], [(3, 1), (3, 2)])

    def test_all_drawers_must_come_undone(self):
        self.is_undone(tree_web([(2, 0)]), [(2, 0)], [(2, 0), (1, 0), (1, 1)])
        self.is_undone(tree_web([(2, 0), (2, 1)]), [(2, 1)], [(2, 1), (1, 2)])
        self.is_undone(tree_web([(2, 0), (2, 1)]), [(2, 1), (2, 0)],
                       [(2, 0), (2, 1), (1, 0), (1, 1), (1, 2), (0, 0)])
        self.is_undone(tree_web([(2, 0), (2, 1), (2, 2)]), [(2, 0), (2, 1), (2, 2)], [
            (2, 0), (2, 1), (2, 2), (1, 0), (1, 1), (1, 2), (1, 3), (0, 0), (0, 1)])

    def test_what_is_cast_off_stays(self):
        self.is_undone(tree_web([(2, 0), (2, 1), (2, 2)], [(0, 0), (1, 3)]), [(2, 0), (2, 1), (2, 2)], [
            (2, 0), (2, 1), (2, 2), (1, 0), (1, 1), (1, 2)])

    def test_handed_in_more_than_once(self):
        for names in ([(2, 0), (2, 0)], [(2, 0), (2, 0), (2, 0)]):
            self.is_undone(tree_web([(2, 0), (2, 1)]), names, [(2, 0), (1, 0), (1, 1)])
        self.is_undone(tree_web([(2, 0), (2, 1)]), [(2, 1), (2, 0), (2, 1), (2, 0)],
                       [(2, 0), (2, 1), (1, 0), (1, 1), (1, 2), (0, 0)])

    def test_rows_by_places_whatever_the_order_of_the_needles(self):
        needles = Needles("round", 3)
        needles.work(made(["c1f2"]))
        needles.work(made(["s", "k", "s"]))
        web = needles.web()
        self.is_undone(web, web[1], [(2, 0), (1, 0), (1, 1), (1, 2), (0, 0), (0, 1), (0, 2)])
        self.is_undone(web, [(1, 2), (1, 0)], [(1, 0), (1, 2), (0, 0), (0, 1)])

    def test_drawn_webs(self):
        seen = collections.Counter()
        for draw, web in drawn_webs(2, 250):
            some = [name for name in web[1] if draw.randrange(2)]
            draw.shuffle(some)
            for names in ([], web[1], web[1] + web[1], some, some + some[:3], web[1][:1]):
                before = copy.deepcopy((web, names))
                fallen = plain_fallen(web, names)
                told = sorted(fallen, key=lambda name: (-name[0], name[1]))
                self.is_undone(web, names, told)
                self.assertEqual((web, names), before)
                self.assertEqual(set(names_of(web)) - fallen, safe_names(web, names))
                seen[len(told) > len(set(names))] += 1
                seen["kept"] += len(web[2])
                seen["off"] += len(web[3])
            self.assertEqual(undone(web, []), [])
        self.assertGreater(min(seen.values()), 100, seen)

    def test_told_lists_are_the_asker_s_own(self):
        web, names = tree_web([(2, 0)]), [(2, 0)]
        undone(web, names).clear()
        undone(web, []).append("spoilt")
        self.assertEqual((undone(web, names), undone(web, [])), ([(2, 0), (1, 0), (1, 1)], []))
        self.assertEqual((web, names), (tree_web([(2, 0)]), [(2, 0)]))
        told = undone(web, names)
        spoil_web(web)
        names.clear()
        self.assertEqual(told, [(2, 0), (1, 0), (1, 1)])

    def test_a_great_web(self):
        web = knitted(read("round; cast 10; 298 times (row rest [k]); row rest [b]"), [0, 0, 0, 0])
        needles = Needles("round", 0, web, [(298, place) for place in range(10)])
        self.assertEqual(undone(needles.web(), [(300, 3)]), [(300, 3)])
        needles = Needles("round", 10)
        for row in range(298):
            needles.work(made("k" * 10))
        self.assertEqual(undone(needles.web(), [(298, 4)]), [(row, 4) for row in range(298, -1, -1)])


class TestWayUp(unittest.TestCase):
    def test_by_hand(self):
        web = small_web()
        self.assertEqual(way_up(web, [], (0, 0)), [(0, 0), (1, 0), (3, 0)])
        self.assertEqual(way_up(web, [(3, 1)], (0, 1)), [(0, 1), (1, 0), (3, 0)])
        self.assertEqual(way_up(web, [(3, 1)], (0, 2)), [(0, 2), (1, 1), (4, 0)])
        self.assertEqual(way_up(web, [(3, 1)], (0, 3)), [(0, 3)])
        self.assertEqual(way_up(web, [(3, 1)], (3, 0)), [(3, 0)])
        self.assertEqual(way_up(web, [(3, 1)], (3, 2)), [(3, 2)])
        self.assertIsNone(way_up(web, [(3, 1)], (3, 1)))

    def test_by_the_first_drawer_that_does_not_come_undone(self):
        web = tree_web([(2, 0), (2, 1), (2, 2)])
        self.assertEqual(way_up(web, [], (0, 0)), [(0, 0), (1, 0), (2, 0)])
        self.assertEqual(way_up(web, [(2, 0)], (0, 0)), [(0, 0), (1, 2), (2, 1)])
        self.assertEqual(way_up(web, [(2, 1), (2, 2)], (0, 0)), [(0, 0), (1, 0), (2, 0)])
        self.assertIsNone(way_up(web, [(2, 0), (2, 1)], (0, 0)))
        self.assertIsNone(way_up(web, [(2, 0)], (1, 1)))
        self.assertEqual(way_up(web, [(2, 0), (2, 1)], (0, 1)), [(0, 1), (1, 3), (2, 2)])

    def test_what_is_held_goes_no_further(self):
        web = tree_web([(2, 0), (2, 1), (2, 2)], [(0, 0), (1, 3)])
        for names in ([], [(2, 0)], [(2, 0), (2, 1), (2, 2)]):
            self.assertEqual(way_up(web, names, (0, 0)), [(0, 0)])
            self.assertEqual(way_up(web, names, (0, 1)), [(0, 1), (1, 3)])

    def test_names_handed_in_twice(self):
        web = tree_web([(2, 0), (2, 1), (2, 2)])
        self.assertEqual(way_up(web, [(2, 0), (2, 0)], (0, 0)), [(0, 0), (1, 2), (2, 1)])

    def test_drawn_webs(self):
        seen = collections.Counter()
        for draw, web in drawn_webs(3, 90):
            above, held = plain_drawers(web), set(held_names(web))
            for names in ([], web[1], [name for name in web[1] if draw.randrange(2)] * 2):
                before, fallen = copy.deepcopy((web, names)), plain_fallen(web, names)
                for name in names_of(web):
                    way = way_up(web, names, name)
                    self.assertEqual(way, plain_way(above, held, fallen, name))
                    seen[way and len(way)] += 1
                    if way is not None:
                        self.assertIs(type(way), list)
                        self.assertIn(way[-1], held - set(names))
                        for one, other in zip(way, way[1:]):
                            self.assertIn(other, above[one])
                self.assertEqual((web, names), before)
        self.assertGreater(min(seen[None], seen[1], seen[2], seen[3], seen[5]), 20, seen)

    def test_told_lists_are_the_asker_s_own(self):
        web = small_web()
        for time in range(2):
            way = way_up(web, [], (0, 0))
            self.assertEqual(way, [(0, 0), (1, 0), (3, 0)])
            way.clear()
        self.assertEqual(web, small_web())


class TestInterface(unittest.TestCase):
    def test_by_names_of_the_interface(self):
        web = tree_web([(2, 0)])
        self.assertEqual(drawers(web=web), plain_drawers(web))
        self.assertEqual(undone(web=web, names=[(2, 0)]), [(2, 0), (1, 0), (1, 1)])
        self.assertEqual(way_up(web=web, names=[(2, 0)], name=(0, 1)), [(0, 1), (1, 3), (2, 2)])
        self.assertEqual(edge(web=web, last=True), [(0, 1), (1, 3), (2, 2)])


class TestNotLying(unittest.TestCase):
    # Drawn through, cast off, drawn through and cast off, kept, and the names of no loop.
    NOT_LYING = [(0, 0), (1, 1), (0, 3), (4, 0), (3, 0), (0, 4), (2, 0), (3, 3), (5, 0), (9, 9), (0, -1), (-1, 0),
                 (-2, 1), (3, -1)]

    def test_let_fall(self):
        web = small_web()
        for name in self.NOT_LYING:
            for names in ([name], [(3, 1), name], [name, (3, 2)], [(3, 1), name, (3, 1)], [name, name]):
                with self.assertRaises(NotLying, msg=names):
                    undone(web, names)
                for asked in ((0, 0), (3, 1), (3, 0)):
                    with self.assertRaises(NotLying, msg=names):
                        way_up(web, names, asked)
        self.assertEqual(web, small_web())

    def test_the_loop_asked_for(self):
        web = small_web()
        for name in ((0, 4), (2, 0), (3, 3), (5, 0), (9, 9), (0, -1), (-1, 0), (-2, 1), (3, -1)):
            for names in ([], [(3, 1)], [(3, 1), (3, 2)]):
                with self.assertRaises(NotLying, msg=name):
                    way_up(web, names, name)

    def test_the_loop_asked_for_need_not_lie(self):
        for name in ((0, 0), (1, 1), (0, 3), (4, 0), (3, 0)):
            self.assertEqual(way_up(small_web(), [], name)[0], name)

    def test_webs_without_loops(self):
        for web in (([[]], [], [], []), ([[], []], [], [], [])):
            self.assertEqual(undone(web, []), [])
            for name in ((0, 0), (1, 0)):
                with self.assertRaises(NotLying):
                    undone(web, [name])
                with self.assertRaises(NotLying):
                    way_up(web, [], name)

    def test_drawn_webs(self):
        for draw, web in drawn_webs(4, 60):
            lying = set(web[1])
            for name in names_of(web) + [(0, len(web[0][0])), (len(web[0]), 0)]:
                if name not in lying:
                    names = web[1] + [name]
                    draw.shuffle(names)
                    with self.assertRaises(NotLying):
                        undone(web, names)


class TestEdge(unittest.TestCase):
    def is_edge(self, web, first, last):
        before = copy.deepcopy(web)
        for found in (edge(web), edge(web, False), edge(web, last=False)):
            self.assertEqual(found, first)
            found.append("spoilt")
        for found in (edge(web, True), edge(web, last=True)):
            self.assertIs(type(found), list)
            self.assertEqual(found, last)
            found.clear()
        self.assertEqual(web, before)

    def test_by_hand(self):
        self.is_edge(small_web(), [(0, 0), (1, 0), (3, 0), (4, 0)], [(0, 3), (1, 1), (3, 2), (4, 0)])
        self.is_edge(tree_web([]), [(0, 0), (1, 0), (2, 0)], [(0, 1), (1, 3), (2, 2)])

    def test_rows_without_loops(self):
        self.is_edge(([[]], [], [], []), [], [])
        self.is_edge(([[], [], []], [], [], []), [], [])
        self.is_edge(([[], [CAST_ON] * 2, [], [CAST_ON]], [(1, 0), (1, 1), (3, 0)], [], []), [(1, 0), (3, 0)],
                     [(1, 1), (3, 0)])

    def test_drawn_webs(self):
        for draw, web in drawn_webs(5, 200):
            rows = [(row, len(loops)) for row, loops in enumerate(web[0]) if loops]
            self.is_edge(web, [(row, 0) for row, many in rows], [(row, many - 1) for row, many in rows])


if __name__ == "__main__":
    unittest.main()
