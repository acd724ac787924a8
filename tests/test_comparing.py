"""Promise 5.1: plans compared, and put together."""

import unittest
from itertools import product

from stillflow.comparing import all_like, greater, likes, rank, together
from stillflow.errors import NoPlace, NoPlan, NoWorld
from tests.examples import (
    BARE, BLOCKS, CROSSED, FULL, LIST_PLANS, ODD_THINGS, ROUND, TALL, UNEVEN, assert_refused, choice_by_hand,
    drawn_worlds, likes_by_hand, plans_by_hand, rank_by_hand, rests_by_hand, small_worlds,
)

GIVERS, TAKERS = (2, 0, 0, 2), (0, 2, 2, 0)
HALF = (1, 1, 1, 1)
NONE = (0, 0, 0, 0)


def places(world):
    return [(side, place) for side in (0, 1) for place in range(len(world[side]))]


def some_pairs(world):
    """Pairs of plans of a world, of which most are not at rest; each plan with itself, too."""
    plans = list(plans_by_hand(world))
    step = max(1, len(plans) // 6)
    return list(product(plans[::step] + rests_by_hand(world), repeat=2))


class Greater(unittest.TestCase):
    def test_place_by_place(self):
        self.assertEqual(greater((1, 5, 0), (2, 3, 0)), (2, 5, 0))
        self.assertEqual(greater((2, 3, 0), (1, 5, 0)), (2, 5, 0))
        self.assertEqual(greater(GIVERS, TAKERS), (2, 2, 2, 2))
        self.assertEqual(greater(HALF, NONE), HALF)
        self.assertEqual(greater((7,), (7,)), (7,))
        self.assertEqual(greater((10 ** 30, 0), (1, 10)), (10 ** 30, 10))

    def test_of_nothing(self):
        self.assertEqual(greater((), ()), ())

    def test_told_is_a_tuple(self):
        self.assertIs(type(greater((1,), (2,))), tuple)
        one, other = (1, 2), (2, 1)
        greater(one, other)
        self.assertEqual((one, other), ((1, 2), (2, 1)))


class Likes(unittest.TestCase):
    def test_plans_at_rest(self):
        for place in (0, 1):
            for better, worse in ((GIVERS, TAKERS), (GIVERS, HALF), (HALF, TAKERS)):
                self.assertIs(likes(CROSSED, 0, place, better, worse), True)
                self.assertIs(likes(CROSSED, 0, place, worse, better), False)
                self.assertIs(likes(CROSSED, 1, place, better, worse), False)
                self.assertIs(likes(CROSSED, 1, place, worse, better), True)

    def test_a_plan_and_itself(self):
        for plan in (GIVERS, TAKERS, HALF, (1, 1, 0, 0)):
            for side, place in product((0, 1), repeat=2):
                self.assertIs(likes(CROSSED, side, place, plan, plan), True)

    def test_less_is_not_chosen(self):
        for side, place in product((0, 1), repeat=2):
            self.assertIs(likes(CROSSED, side, place, HALF, NONE), True)
            self.assertIs(likes(CROSSED, side, place, NONE, HALF), False)

    def test_only_the_ways_of_the_place_count(self):
        one, other = (1, 1, 0, 0), (1, 1, 0, 1)
        self.assertIs(likes(CROSSED, 0, 0, one, other), True)
        self.assertIs(likes(CROSSED, 0, 0, other, one), True)
        self.assertIs(likes(CROSSED, 1, 0, one, (1, 0, 0, 2)), True)
        self.assertIs(likes(CROSSED, 0, 1, one, (2, 0, 0, 0)), True)
        self.assertIs(likes(CROSSED, 0, 1, one, (1, 0, 0, 1)), False)

    def test_neither_of_both(self):
        one, other = (1, 0, 0, 0), (0, 1, 0, 0)
        self.assertIs(likes(CROSSED, 0, 0, one, other), False)
        self.assertIs(likes(CROSSED, 0, 0, other, one), False)
        self.assertEqual(together(CROSSED, 0, one, other), (1, 1, 0, 0))

    def test_places_without_ways(self):
        self.assertIs(likes(BARE, 0, 0, (), ()), True)
        self.assertIs(likes(BARE, 1, 0, (), ()), True)
        self.assertIs(likes(TALL, 0, 2, (0, 0, 0), (6, 0, 3)), True)

    def test_an_amount_of_nothing(self):
        self.assertIs(likes(UNEVEN, 0, 1, (0,) * 5, (1, 4, 0, 2, 2)), True)
        self.assertIs(likes(UNEVEN, 0, 1, (1, 4, 0, 2, 2), (0,) * 5), True)

    def test_by_hand(self):
        for world in list(small_worlds())[::7] + drawn_worlds(40) + [ROUND]:
            for one, other in some_pairs(world):
                for side, place in places(world):
                    expected = likes_by_hand(world, side, place, one, other)
                    self.assertIs(likes(world, side, place, one, other), expected, repr((world, one, other)))


class AllLike(unittest.TestCase):
    def test_plans_at_rest(self):
        for better, worse in ((GIVERS, TAKERS), (GIVERS, HALF), (HALF, TAKERS)):
            self.assertIs(all_like(CROSSED, 0, better, worse), True)
            self.assertIs(all_like(CROSSED, 0, worse, better), False)
            self.assertIs(all_like(CROSSED, 1, better, worse), False)
            self.assertIs(all_like(CROSSED, 1, worse, better), True)

    def test_one_place_that_would_not(self):
        one, other = GIVERS + (0, 1, 1, 0), TAKERS + (1, 0, 0, 1)
        for side in (0, 1):
            self.assertIs(all_like(BLOCKS, side, one, other), False)
            self.assertIs(all_like(BLOCKS, side, other, one), False)
        self.assertIs(all_like(CROSSED, 0, (2, 0, 0, 0), (2, 0, 0, 1)), False)
        self.assertIs(all_like(CROSSED, 0, (0, 0, 0, 2), (1, 0, 0, 2)), False)

    def test_without_ways(self):
        for side in (0, 1):
            self.assertIs(all_like(BARE, side, (), ()), True)

    def test_by_hand(self):
        for world in list(small_worlds())[::7] + drawn_worlds(40) + [ROUND]:
            for one, other in some_pairs(world):
                for side in (0, 1):
                    each = [likes_by_hand(world, side, place, one, other) for place in range(len(world[side]))]
                    self.assertIs(all_like(world, side, one, other), all(each), repr((world, one, other)))


class Together(unittest.TestCase):
    def test_plans_at_rest(self):
        for one, other in product((GIVERS, HALF, TAKERS), repeat=2):
            order = (GIVERS, HALF, TAKERS)
            first, last = sorted((one, other), key=order.index)
            self.assertEqual(together(CROSSED, 0, one, other), first)
            self.assertEqual(together(CROSSED, 1, one, other), last)

    def test_what_is_neither_of_both(self):
        one, other = GIVERS + (0, 1, 1, 0), TAKERS + (1, 0, 0, 1)
        self.assertEqual(together(BLOCKS, 0, one, other), GIVERS + (1, 0, 0, 1))
        self.assertEqual(together(BLOCKS, 1, one, other), TAKERS + (0, 1, 1, 0))

    def test_plans_that_are_not_at_rest(self):
        self.assertEqual(together(CROSSED, 0, (2, 0, 0, 0), (0, 0, 2, 0)), (2, 0, 2, 0))
        self.assertEqual(together(CROSSED, 1, (2, 0, 0, 0), (0, 0, 2, 0)), (0, 0, 2, 0))
        self.assertEqual(together(UNEVEN, 0, (3, 2, 0, 0, 4), (0, 0, 0, 2, 2)), (3, 2, 0, 2, 2))
        self.assertEqual(together(UNEVEN, 1, (3, 2, 0, 0, 4), (0, 0, 0, 2, 2)), (1, 2, 0, 2, 4))

    def test_by_hand(self):
        for world in list(small_worlds())[::7] + drawn_worlds(40):
            for one, other in some_pairs(world):
                both = tuple(max(pair) for pair in zip(one, other))
                for side in (0, 1):
                    told = together(world, side, one, other)
                    self.assertIs(type(told), tuple)
                    for place in range(len(world[side])):
                        chosen = choice_by_hand(world, side, place, both)
                        self.assertEqual(rank_by_hand(world, side, place, told), chosen, repr((world, one, other)))


class Rank(unittest.TestCase):
    def test_the_most_liked_way_first(self):
        plan = (1, 4, 0, 2, 2)
        self.assertEqual([rank(UNEVEN, 0, place, plan) for place in range(3)], [(4, 1), (0,), (2, 2)])
        self.assertEqual([rank(UNEVEN, 1, place, plan) for place in range(2)], [(2, 1, 0), (4, 2)])
        self.assertEqual([rank(CROSSED, 0, place, GIVERS) for place in (0, 1)], [(2, 0), (2, 0)])
        self.assertEqual([rank(CROSSED, 1, place, GIVERS) for place in (0, 1)], [(0, 2), (0, 2)])

    def test_four_by_four(self):
        plan = (1, 2, 3, 0, 0, 1, 1, 2, 3, 4, 0, 1, 4, 0, 2, 0)
        self.assertEqual([rank(FULL, 0, place, plan) for place in range(4)], [
            (1, 2, 3, 0), (2, 1, 1, 0), (4, 1, 3, 0), (2, 4, 0, 0),
        ])
        self.assertEqual([rank(FULL, 1, place, plan) for place in range(4)], [
            (4, 0, 3, 1), (2, 4, 1, 0), (0, 2, 3, 1), (2, 0, 0, 1),
        ])

    def test_places_without_ways(self):
        self.assertEqual(rank(BARE, 0, 0, ()), ())
        self.assertEqual(rank(BARE, 1, 0, ()), ())
        self.assertEqual(rank(TALL, 0, 2, (6, 0, 3)), ())

    def test_by_hand(self):
        for world in list(small_worlds())[::7] + drawn_worlds(40):
            for plan in list(plans_by_hand(world))[::3]:
                for side, place in places(world):
                    self.assertEqual(rank(world, side, place, plan), rank_by_hand(world, side, place, plan))


class Refusals(unittest.TestCase):
    def test_no_world(self):
        for thing in ODD_THINGS + ((), 0):
            assert_refused(self, NoWorld, likes, thing, 0, 0, (), ())
            assert_refused(self, NoWorld, all_like, thing, 0, (), ())
            assert_refused(self, NoWorld, together, thing, 0, (), ())
            assert_refused(self, NoWorld, rank, thing, 0, 0, ())

    def test_no_plan_in_the_place_of_each(self):
        plan = (1, 4, 0, 2, 2)
        for thing in ODD_THINGS + ((), 0, plan[:-1], plan + (0,), (1, 5, 0, 2, 2), (2, 4, 0, 2, 2), list(plan)):
            for side in (0, 1):
                for one, other in ((thing, plan), (plan, thing), (thing, thing)):
                    assert_refused(self, NoPlan, likes, UNEVEN, side, 0, one, other)
                    assert_refused(self, NoPlan, all_like, UNEVEN, side, one, other)
                    assert_refused(self, NoPlan, together, UNEVEN, side, one, other)
                assert_refused(self, NoPlan, rank, UNEVEN, side, 0, thing)

    def test_lists_are_no_plans(self):
        for world, thing in LIST_PLANS:
            for one, other in ((thing, tuple(thing)), (tuple(thing), thing)):
                assert_refused(self, NoPlan, likes, world, 0, 0, one, other)
                assert_refused(self, NoPlan, all_like, world, 0, one, other)
                assert_refused(self, NoPlan, together, world, 0, one, other)
            assert_refused(self, NoPlan, rank, world, 0, 0, thing)

    def test_no_place(self):
        plan = (1, 4, 0, 2, 2)
        for side in (0, 1):
            for thing in ODD_THINGS + ((), 3 - side, 4, -2, -3):
                assert_refused(self, NoPlace, likes, UNEVEN, side, thing, plan, plan)
                assert_refused(self, NoPlace, rank, UNEVEN, side, thing, plan)
        self.assertEqual(rank(UNEVEN, 0, 2, plan), (2, 2))
        self.assertIs(likes(UNEVEN, 0, 2, plan, plan), True)

    def test_no_side(self):
        plan = (1, 4, 0, 2, 2)
        for thing in ODD_THINGS + ((), 2, -2):
            assert_refused(self, NoPlace, likes, UNEVEN, thing, 0, plan, plan)
            assert_refused(self, NoPlace, rank, UNEVEN, thing, 0, plan)
            assert_refused(self, NoPlace, all_like, UNEVEN, thing, plan, plan)
            assert_refused(self, NoPlace, together, UNEVEN, thing, plan, plan)

    def test_which_refusal_comes_first(self):
        plan = (1, 4, 0, 2, 2)
        for thing, other in product(ODD_THINGS, repeat=2):
            assert_refused(self, NoWorld, likes, thing, 0, other, other, plan)
            assert_refused(self, NoWorld, rank, thing, 0, other, other)
            assert_refused(self, NoWorld, all_like, thing, 0, other, plan)
            assert_refused(self, NoWorld, together, thing, 0, plan, other)
            assert_refused(self, NoPlan, likes, UNEVEN, 0, other, thing, plan)
            assert_refused(self, NoPlan, likes, UNEVEN, 0, other, plan, thing)
            assert_refused(self, NoPlan, rank, UNEVEN, 1, other, thing)


if __name__ == "__main__":
    unittest.main()
