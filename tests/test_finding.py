"""Promises 3.1 and 3.2: the best plans at rest of both sides, and the offers and refusals that lead there."""

import unittest
from itertools import product

from stillflow.errors import NoPlace, NoWorld
from stillflow.finding import both_ends, capped, givers_best, limits, lowered, refused, steps, takers_best
from stillflow.flows import rests
from stillflow.worlds import is_plan, is_world
from tests.examples import (
    AT_ONCE, BARE, BLOCKS, CROSSED, FULL, ODD_THINGS, ONE, RIVALS, ROUND, TALL, TWICE, UNEVEN, WORLDS, assert_refused,
    best_by_hand, both_ends_by_hand, drawn_worlds, small_worlds,
)

# Nothing to give at one place, no room at another.
NOTHINGS = (
    ((0, (0, 1)), (3, (0, 1))),
    ((0, (0, 1)), (2, (0, 1))),
    ((0, 0, 2), (0, 1, 2), (1, 0, 3), (1, 1, 3)),
)


def steps_by_hand(world):
    """The words of promise 3.2, by themselves: all steps, and the caps ahead of each and behind all."""
    caps = [way[2] for way in world[2]]
    rows, all_caps = [], [tuple(caps)]
    while True:
        given = both_ends_by_hand(world, 0, caps)
        kept = both_ends_by_hand(world, 1, given)
        less = [way for way in range(len(caps)) if kept[way] < given[way]]
        if not less:
            return rows, all_caps
        caps[less[0]] = kept[less[0]]
        rows.append((less[0], kept[less[0]]))
        all_caps.append(tuple(caps))


class BothEnds(unittest.TestCase):
    def test_of_givers(self):
        self.assertEqual(both_ends(CROSSED, 0, (2, 2, 2, 2)), (2, 0, 0, 2))
        self.assertEqual(both_ends(CROSSED, 0, (1, 1, 1, 1)), (1, 1, 1, 1))
        self.assertEqual(both_ends(CROSSED, 0, (1, 2, 0, 0)), (1, 1, 0, 0))
        self.assertEqual(both_ends(TWICE, 0, (3, 2, 2, 2)), (3, 0, 2, 2))

    def test_of_takers(self):
        self.assertEqual(both_ends(CROSSED, 1, (2, 2, 2, 2)), (0, 2, 2, 0))
        self.assertEqual(both_ends(CROSSED, 1, (2, 0, 1, 2)), (1, 0, 1, 2))
        self.assertEqual(both_ends(TWICE, 1, (3, 0, 2, 2)), (2, 0, 0, 2))

    def test_offers_greater_than_limits_and_amounts(self):
        for many in (9, 10, 99, 10 ** 30):
            self.assertEqual(both_ends(UNEVEN, 0, (many,) * 5), (1, 4, 0, 2, 2))
            self.assertEqual(both_ends(UNEVEN, 1, (many,) * 5), (1, 4, 0, 2, 5))
            self.assertEqual(both_ends(ONE, 0, (many,)), (2,))
            self.assertEqual(both_ends(ONE, 1, (many,)), (2,))

    def test_of_nothing(self):
        for world, side in product(WORLDS, (0, 1)):
            nothing = (0,) * len(world[2])
            self.assertEqual(both_ends(world, side, nothing), nothing)

    def test_without_ways(self):
        self.assertEqual(both_ends(BARE, 0, ()), ())
        self.assertEqual(both_ends(BARE, 1, ()), ())

    def test_what_one_side_chooses_the_other_may_have_no_room_for(self):
        self.assertEqual(both_ends(RIVALS, 0, (9,) * 16), (9, 0, 0, 0) * 4)
        self.assertEqual(both_ends(RIVALS, 1, (9,) * 16), (0,) * 12 + (9,) * 4)

    def test_by_hand(self):
        for number, world in enumerate(drawn_worlds(300)):
            offers = tuple((number + 3 * way) % 5 for way in range(len(world[2])))
            for side in (0, 1):
                self.assertEqual(both_ends(world, side, offers), both_ends_by_hand(world, side, offers), repr(world))

    def test_no_world(self):
        for thing in ODD_THINGS + ((), 0):
            for side in (0, 1):
                assert_refused(self, NoWorld, both_ends, thing, side, ())

    def test_no_side(self):
        for thing in ODD_THINGS + ((), 2, -2):
            assert_refused(self, NoPlace, both_ends, UNEVEN, thing, (0,) * 5)
            assert_refused(self, NoWorld, both_ends, None, thing, ())


class Best(unittest.TestCase):
    def told(self, world, givers, takers):
        self.assertEqual(givers_best(world), givers, repr(world))
        self.assertEqual(takers_best(world), takers, repr(world))

    def test_one_plan_at_rest(self):
        self.told(ONE, (2,), (2,))
        self.told(UNEVEN, (1, 4, 0, 2, 2), (1, 4, 0, 2, 2))
        self.told(TALL, (6, 0, 3), (6, 0, 3))
        self.told(TWICE, (0, 2, 0, 2), (0, 2, 0, 2))
        self.told(AT_ONCE, (1, 1, 0, 0), (1, 1, 0, 0))

    def test_several_plans_at_rest(self):
        self.told(CROSSED, (2, 0, 0, 2), (0, 2, 2, 0))
        self.told(ROUND, (1, 0, 0, 0, 1, 0, 0, 0, 1), (0, 0, 1, 1, 0, 0, 0, 1, 0))
        self.told(BLOCKS, (2, 0, 0, 2, 1, 0, 0, 1), (0, 2, 2, 0, 0, 1, 1, 0))

    def test_without_ways(self):
        self.told(BARE, (), ())
        self.told((((9, ()),) * 4, ((9, ()),) * 4, ()), (), ())

    def test_amounts_of_nothing(self):
        self.told(NOTHINGS, (0, 0, 0, 2), (0, 0, 0, 2))
        self.told((((0, (0,)),), ((9, (0,)),), ((0, 0, 9),)), (0,), (0,))
        self.told((((9, (0,)),), ((0, (0,)),), ((0, 0, 9),)), (0,), (0,))
        self.told((((0, (0,)),), ((0, (0,)),), ((0, 0, 1),)), (0,), (0,))

    def test_the_greatest_worlds(self):
        givers = (9, 0, 0, 0, 0, 0, 0, 9, 0, 9, 0, 0, 0, 0, 9, 0)
        takers = (0, 9, 0, 0, 0, 0, 0, 9, 0, 0, 9, 0, 9, 0, 0, 0)
        self.told(FULL, givers, takers)
        rivals = (0, 0, 0, 9, 0, 0, 9, 0, 0, 9, 0, 0, 9, 0, 0, 0)
        self.told(RIVALS, rivals, rivals)

    def test_both_are_plans_at_rest(self):
        for world in WORLDS + (AT_ONCE, NOTHINGS):
            for best in (givers_best, takers_best):
                self.assertIs(is_plan(world, best(world)), True)
                self.assertIs(rests(world, best(world)), True)

    def test_by_hand_there_is_just_one_each(self):
        for world in (ONE, BARE, CROSSED, ROUND, TWICE, BLOCKS, AT_ONCE, NOTHINGS):
            self.told(world, *best_by_hand(world, 0), *best_by_hand(world, 1))

    def test_by_hand_in_small_worlds(self):
        for world in small_worlds():
            self.told(world, *best_by_hand(world, 0), *best_by_hand(world, 1))

    def test_by_hand_in_drawn_worlds(self):
        several = 0
        for world in drawn_worlds(800):
            self.assertTrue(is_world(world))
            self.told(world, *best_by_hand(world, 0), *best_by_hand(world, 1))
            several += givers_best(world) != takers_best(world)
        self.assertGreater(several, 30)

    def test_no_world(self):
        for thing in ODD_THINGS + ((), 0):
            assert_refused(self, NoWorld, givers_best, thing)
            assert_refused(self, NoWorld, takers_best, thing)


class Steps(unittest.TestCase):
    def told(self, world, rows, all_caps):
        """Rows are all steps, all_caps the caps ahead of each of them and behind all."""
        self.assertEqual(steps(world), rows, repr(world))
        for many, caps in enumerate(all_caps):
            self.assertEqual(capped(world, rows[:many]), caps, repr(world))
            self.assertEqual(refused(world, caps), (rows + [None])[many], repr(world))
            if many < len(rows):
                self.assertEqual(lowered(caps, *rows[many]), all_caps[many + 1], repr(world))
        self.assertEqual(limits(world), all_caps[0])
        self.assertEqual(both_ends(world, 0, all_caps[-1]), givers_best(world))
        self.assertEqual(both_ends(world, 1, givers_best(world)), givers_best(world))

    def test_limits(self):
        self.assertEqual(limits(ONE), (2,))
        self.assertEqual(limits(BARE), ())
        self.assertEqual(limits(UNEVEN), (3, 4, 1, 2, 9))
        self.assertEqual(limits(FULL), (9,) * 16)

    def test_lowered(self):
        self.assertEqual(lowered((3, 4, 5), 0, 2), (2, 4, 5))
        self.assertEqual(lowered((3, 4, 5), 1, 0), (3, 0, 5))
        self.assertEqual(lowered((3, 4, 5), 2, 4), (3, 4, 4))
        self.assertEqual(lowered((1,), 0, 0), (0,))
        caps = (3, 4, 5)
        lowered(caps, 1, 1)
        self.assertEqual(caps, (3, 4, 5))

    def test_where_no_cap_is_lowered(self):
        for world in (ONE, BARE, CROSSED, UNEVEN, FULL, ROUND, BLOCKS):
            self.told(world, [], [limits(world)])

    def test_a_cap_is_lowered_in_part(self):
        self.told(TALL, [(0, 6)], [(9, 1, 4), (6, 1, 4)])

    def test_a_cap_is_lowered_more_than_once(self):
        self.told(TWICE, [(0, 2), (2, 0), (0, 0)], [(3, 2, 2, 2), (2, 2, 2, 2), (2, 2, 0, 2), (0, 2, 0, 2)])

    def test_a_cap_is_lowered_three_times(self):
        world = (
            ((9, (0,)), (4, (1, 0)), (5, (1, 2)), (6, (2, 1))),
            ((6, (1, 0)), (6, (3, 2, 1)), (2, (2, 3))),
            ((0, 0, 9), (1, 0, 4), (1, 1, 4), (2, 1, 5), (2, 2, 5), (3, 1, 6), (3, 2, 6)),
        )
        self.told(
            world,
            [(0, 6), (2, 1), (0, 3), (6, 2), (2, 0), (0, 2), (3, 2), (4, 2), (6, 0), (3, 0)],
            [
                (9, 4, 4, 5, 5, 6, 6), (6, 4, 4, 5, 5, 6, 6), (6, 4, 1, 5, 5, 6, 6), (3, 4, 1, 5, 5, 6, 6),
                (3, 4, 1, 5, 5, 6, 2), (3, 4, 0, 5, 5, 6, 2), (2, 4, 0, 5, 5, 6, 2), (2, 4, 0, 2, 5, 6, 2),
                (2, 4, 0, 2, 2, 6, 2), (2, 4, 0, 2, 2, 6, 0), (2, 4, 0, 0, 2, 6, 0),
            ],
        )

    def test_the_first_way_is_lowered_first(self):
        self.told(AT_ONCE, [(2, 0), (3, 0)], [(1, 1, 1, 1), (1, 1, 0, 1), (1, 1, 0, 0)])

    def test_no_room_at_all(self):
        self.told(NOTHINGS, [(2, 0), (3, 2)], [(2, 2, 3, 3), (2, 2, 0, 3), (2, 2, 0, 2)])

    def test_the_greatest_world(self):
        rows = [(0, 0), (4, 0), (1, 0), (8, 0), (5, 0), (2, 0)]
        caps = [9] * 16
        all_caps = [tuple(caps)]
        for way, cap in rows:
            caps[way] = cap
            all_caps.append(tuple(caps))
        self.told(RIVALS, rows, all_caps)

    def test_by_hand(self):
        more_than_once = 0
        for world in list(small_worlds()) + drawn_worlds(800):
            rows, all_caps = steps_by_hand(world)
            self.told(world, rows, all_caps)
            more_than_once += len({way for way, _ in rows}) < len(rows)
        self.assertGreater(more_than_once, 5)

    def test_refused_of_caps_that_no_steps_lead_to(self):
        self.assertEqual(refused(CROSSED, (0, 2, 0, 2)), (3, 0))
        self.assertEqual(refused(CROSSED, (0, 0, 0, 0)), None)
        self.assertEqual(refused(TALL, (9, 1, 0)), None)
        self.assertEqual(refused(TALL, (9, 1, 1)), (0, 8))
        self.assertEqual(refused(TALL, (7, 0, 3)), (0, 6))
        for number, world in enumerate(drawn_worlds(200)):
            caps = tuple((number + way * way) % (limit + 1) for way, limit in enumerate(limits(world)))
            given = both_ends_by_hand(world, 0, caps)
            kept = both_ends_by_hand(world, 1, given)
            less = [(way, kept[way]) for way in range(len(caps)) if kept[way] < given[way]]
            self.assertEqual(refused(world, caps), (less + [None])[0], repr(world))

    def test_told_are_tuples_and_lists(self):
        self.assertIs(type(steps(TWICE)), list)
        self.assertEqual([type(row) for row in steps(TWICE)], [tuple] * 3)
        for told in (refused(TWICE, (3, 2, 2, 2)), capped(TWICE, [(0, 2)]), limits(TWICE), lowered((1, 2), 0, 0)):
            self.assertIs(type(told), tuple)

    def test_rows_that_are_handed_in_are_not_changed(self):
        rows = [(0, 2), (2, 0)]
        self.assertEqual(capped(TWICE, rows), (2, 2, 0, 2))
        self.assertEqual(rows, [(0, 2), (2, 0)])


if __name__ == "__main__":
    unittest.main()
