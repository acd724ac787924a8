"""Promise 10.1: what plans cost, and the fairest one at rest."""

import unittest

from stillflow.costs import cost, costs, fairest
from stillflow.errors import NoPlace, NoPlan, NoWorld, TooMany
from tests.examples import (
    BARE, BLOCKS, CROSSED, FULL, JUST_FEW_ENOUGH, JUST_TOO_MANY, LEFT, ODD_THINGS, ONE, RIVALS, ROUND, TALL, TWICE,
    UNEVEN, WORLDS, assert_refused, cost_by_hand, costs_by_hand, drawn_worlds, plans_by_hand, rests_by_hand,
)

# The plans at rest of a crossed world with one limit less cost as much together: (0, 4), (2, 2), and so on.
NEARER_FIRST = (CROSSED[0], CROSSED[1], ((0, 0, 2), (0, 1, 3), (1, 0, 1), (1, 1, 2)))
NEARER_LAST = (CROSSED[0], CROSSED[1], ((0, 0, 1), (0, 1, 2), (1, 0, 2), (1, 1, 3)))

# Two plans at rest, with costs of (0, 2) and (2, 0).
AS_NEAR = (
    ((1, (1, 0)), (1, (0, 1))),
    ((1, (0, 1)), (1, (1, 0))),
    ((0, 0, 1), (0, 1, 3), (1, 0, 2), (1, 1, 1)),
)

# Three plans at rest, with costs of (0, 6), (2, 4) and (4, 2).
AS_NEAR_BEHIND = (
    ((3, (1, 0)), (3, (0, 1)), (3, ())),
    ((3, (0, 1)), (3, (1, 0))),
    ((0, 0, 2), (0, 1, 3), (1, 0, 3), (1, 1, 2)),
)

# Two plans at rest each; they cost (1, 2) and (4, 0), and (0, 4) and (2, 1).
CHEAP_FIRST = (
    ((1, (2, 0, 1)), (1, (1, 2)), (1, (1, 0))),
    ((1, (2, 0)), (1, (0, 1, 2)), (1, (1, 0))),
    ((0, 0, 1), (0, 1, 1), (0, 2, 1), (1, 1, 1), (1, 2, 1), (2, 0, 1), (2, 1, 1)),
)
CHEAP_LAST = (
    ((1, (2, 0)), (1, (1, 0, 2)), (1, (0, 1))),
    ((1, (1, 0, 2)), (1, (2, 1)), (1, (1, 0))),
    ((0, 0, 1), (0, 2, 1), (1, 0, 1), (1, 1, 1), (1, 2, 1), (2, 0, 1), (2, 1, 1)),
)


def fairest_by_hand(world):
    """Of all plans at rest one by one: another one is taken only if it is better."""
    best = None
    for plan in rests_by_hand(world):
        givers, takers = costs_by_hand(world, plan)
        if best is None or (givers + takers, abs(givers - takers)) < best[:2]:
            best = (givers + takers, abs(givers - takers), plan)
    return best[2]


class Cost(unittest.TestCase):
    def test_all_on_the_most_liked_way(self):
        self.assertEqual(cost(CROSSED, 0, 0, (2, 0, 0, 2)), 0)
        self.assertEqual(cost(CROSSED, 1, 0, (0, 2, 2, 0)), 0)

    def test_on_others(self):
        self.assertEqual(cost(CROSSED, 0, 0, (0, 2, 2, 0)), 2)
        self.assertEqual(cost(CROSSED, 0, 0, (1, 1, 1, 1)), 1)
        # Taker 0 likes giver 2, then 0, then 1, and has room for 3.
        self.assertEqual(cost(UNEVEN, 1, 0, (1, 4, 0, 2, 2)), 1)
        self.assertEqual(cost(UNEVEN, 1, 0, (3, 0, 0, 0, 0)), 3)
        third = (((9, ()), (9, (0,)), (9, (0,)), (9, (0,))), ((3, (2, 3, 1)),), ((1, 0, 3), (2, 0, 3), (3, 0, 3)))
        for plan, expected in (((3, 0, 0), 6), ((0, 3, 0), 0), ((0, 0, 3), 3), ((1, 1, 1), 3), ((1, 0, 0), 8)):
            self.assertEqual(cost(third, 1, 0, plan), expected)

    def test_some_of_the_amount_does_not_go(self):
        self.assertEqual(cost(ONE, 0, 0, (2,)), 1)
        self.assertEqual(cost(ONE, 1, 0, (2,)), 2)
        self.assertEqual(cost(CROSSED, 0, 0, (1, 0, 0, 0)), 2)
        self.assertEqual(cost(CROSSED, 0, 0, (0, 1, 0, 0)), 3)
        self.assertEqual(cost(UNEVEN, 1, 0, (1, 0, 0, 1, 0)), 1 + 3)

    def test_nothing_goes(self):
        self.assertEqual(cost(ONE, 0, 0, (0,)), 3)
        self.assertEqual(cost(CROSSED, 1, 1, (0, 0, 0, 0)), 4)
        self.assertEqual(cost(UNEVEN, 1, 0, (0, 0, 0, 0, 0)), 9)
        self.assertEqual(cost(FULL, 0, 3, (0,) * 16), 36)

    def test_of_a_place_without_ways(self):
        self.assertEqual(cost(BARE, 0, 0, ()), 0)
        self.assertEqual(cost(BARE, 1, 0, ()), 0)
        self.assertEqual(cost(TALL, 0, 2, (6, 0, 3)), 0)

    def test_of_an_amount_of_nothing(self):
        self.assertEqual(cost(UNEVEN, 0, 1, (1, 4, 0, 2, 2)), 0)

    def test_by_hand(self):
        for world in (ONE, CROSSED, TALL, ROUND, TWICE) + tuple(drawn_worlds(60)):
            for plan in plans_by_hand(world):
                for side in (0, 1):
                    for place in range(len(world[side])):
                        expected = cost_by_hand(world, side, place, plan)
                        self.assertEqual(cost(world, side, place, plan), expected, (world, side, place, plan))

    def test_no_world_ahead_of_no_plan_ahead_of_no_place(self):
        for thing in ODD_THINGS + ((),):
            assert_refused(self, NoWorld, cost, thing, None, None, None)
            assert_refused(self, NoWorld, cost, thing, 0, 0, (2,))
            assert_refused(self, NoPlan, cost, UNEVEN, 0, 0, thing)
            assert_refused(self, NoPlan, cost, UNEVEN, None, None, thing)
            assert_refused(self, NoPlace, cost, UNEVEN, thing, 0, (1, 4, 0, 2, 2))
            assert_refused(self, NoPlace, cost, UNEVEN, 0, thing, (1, 4, 0, 2, 2))
        for side, place in ((0, 3), (1, 2), (2, 0), (0, -1), (False, 0), (0, True)):
            assert_refused(self, NoPlace, cost, UNEVEN, side, place, (1, 4, 0, 2, 2))


class Costs(unittest.TestCase):
    def test_of_both_sides(self):
        self.assertEqual(costs(CROSSED, (2, 0, 0, 2)), (0, 4))
        self.assertEqual(costs(CROSSED, (0, 2, 2, 0)), (4, 0))
        self.assertEqual(costs(CROSSED, (1, 1, 1, 1)), (2, 2))
        self.assertEqual(costs(CROSSED, (0, 0, 0, 0)), (8, 8))
        self.assertEqual(costs(TALL, (6, 0, 3)), (3, 6))
        self.assertEqual(costs(TWICE, (0, 2, 0, 2)), (5, 0))
        self.assertEqual(costs(BARE, ()), (0, 0))

    def test_by_hand(self):
        for world in (ONE, CROSSED, TALL, ROUND, TWICE, LEFT) + tuple(drawn_worlds(60)):
            for plan in plans_by_hand(world):
                self.assertEqual(costs(world, plan), costs_by_hand(world, plan), (world, plan))

    def test_kind(self):
        for world in WORLDS:
            told = costs(world, (0,) * len(world[2]))
            self.assertIs(type(told), tuple)
            self.assertEqual([type(part) for part in told], [int, int])

    def test_no_world_ahead_of_no_plan(self):
        for thing in ODD_THINGS + ((), 0):
            assert_refused(self, NoWorld, costs, thing, None)
            assert_refused(self, NoWorld, costs, thing, (2,))
            assert_refused(self, NoPlan, costs, UNEVEN, thing)
        for thing in ([0, 0, 0, 0, 0], (0, 0, 0, 0), (3, 4, 0, 0, 0), (0, 0, 0, 0, False)):
            assert_refused(self, NoPlan, costs, UNEVEN, thing)


class Fairest(unittest.TestCase):
    def told(self, world, plan, each):
        """The fairest plan, and what all plans at rest cost: that the example is what it is meant to be."""
        self.assertEqual([costs_by_hand(world, rest) for rest in rests_by_hand(world)], each)
        self.assertEqual(fairest(world), plan)

    def test_one_plan_at_rest_alone(self):
        self.told(ONE, (2,), [(1, 2)])
        self.told(BARE, (), [(0, 0)])
        self.told(TALL, (6, 0, 3), [(3, 6)])
        self.told(TWICE, (0, 2, 0, 2), [(5, 0)])

    def test_one_costs_less_than_all_others(self):
        self.told(CHEAP_FIRST, (0, 0, 1, 1, 0, 1, 0), [(1, 2), (4, 0)])
        self.told(CHEAP_LAST, (0, 1, 1, 0, 0, 0, 1), [(0, 4), (2, 1)])

    def test_the_nearer_one_of_such_as_cost_as_much(self):
        self.told(NEARER_FIRST, (1, 1, 1, 1), [(2, 2), (0, 4)])
        self.told(NEARER_LAST, (1, 1, 1, 1), [(4, 0), (2, 2)])
        self.told(CROSSED, (1, 1, 1, 1), [(4, 0), (2, 2), (0, 4)])
        self.told(LEFT, (1, 1, 1, 1, 3), [(4, 1), (2, 3), (0, 5)])
        self.told(ROUND, (0, 1, 0, 0, 0, 1, 1, 0, 0), [(6, 0), (3, 3), (0, 6)])

    def test_the_first_of_such_as_are_as_near(self):
        self.told(AS_NEAR, (0, 1, 1, 0), [(0, 2), (2, 0)])
        self.told(AS_NEAR_BEHIND, (1, 2, 2, 1), [(0, 6), (2, 4), (4, 2)])
        self.told(BLOCKS, (0, 2, 2, 0, 1, 0, 0, 1), [(6, 0), (4, 2), (4, 2), (2, 4), (2, 4), (0, 6)])

    def test_by_hand(self):
        for world in drawn_worlds(300):
            self.assertEqual(fairest(world), fairest_by_hand(world), repr(world))

    def test_just_few_enough(self):
        for world in JUST_FEW_ENOUGH:
            self.assertEqual(fairest(world), fairest_by_hand(world))

    def test_too_many(self):
        for world in JUST_TOO_MANY + (FULL, RIVALS):
            assert_refused(self, TooMany, fairest, world)

    def test_no_world(self):
        for thing in ODD_THINGS + ((), 0, list(FULL)):
            assert_refused(self, NoWorld, fairest, thing)


if __name__ == "__main__":
    unittest.main()
