"""Promise 1.2: plans, and worlds and plans turned about."""

import unittest
from itertools import product

from stillflow.errors import NoPlan, NoWorld
from stillflow.worlds import is_plan, is_world, turned, turned_plan
from tests.examples import (
    BARE, CROSSED, FULL, LIST_PLANS, ODD_THINGS, ONE, TALL, UNEVEN, WORLDS, assert_refused, plans_by_hand, small_worlds,
)

# A plan of each world with something on it, where there is a way.
PLANS = (
    (ONE, (2,)),
    (BARE, ()),
    (CROSSED, (2, 0, 0, 1)),
    (UNEVEN, (1, 4, 0, 2, 2)),
    (FULL, (9, 0, 0, 0, 0, 1, 2, 3, 0, 4, 5, 0, 0, 0, 0, 6)),
    (TALL, (5, 0, 3)),
)


class IsPlan(unittest.TestCase):
    def told(self, expected, world, thing):
        self.assertIs(is_plan(world, thing), expected, repr((world, thing)))

    def test_plans(self):
        for world, plan in PLANS:
            self.told(True, world, plan)
            self.told(True, world, (0,) * len(plan))

    def test_up_to_the_limit(self):
        for many in range(-2, 6):
            self.told(0 <= many <= 2, ONE, (many,))

    def test_up_to_the_amount(self):
        world = (((4, (0, 1)),), ((9, (0,)), (9, (0,))), ((0, 0, 9), (0, 1, 9)))
        for one, other in product(range(-1, 11), repeat=2):
            self.told(min(one, other) >= 0 and one + other <= 4, world, (one, other))

    def test_up_to_the_room(self):
        world = (((9, (0,)), (9, (0,))), ((4, (0, 1)),), ((0, 0, 9), (1, 0, 9)))
        for one, other in product(range(-1, 11), repeat=2):
            self.told(min(one, other) >= 0 and one + other <= 4, world, (one, other))

    def test_each_place_by_itself(self):
        self.told(True, CROSSED, (2, 0, 0, 2))
        self.told(True, CROSSED, (1, 1, 1, 1))
        self.told(False, CROSSED, (0, 2, 0, 1))
        self.told(False, CROSSED, (2, 0, 1, 0))
        self.told(False, CROSSED, (0, 0, 2, 1))
        self.told(False, CROSSED, (2, 1, 0, 0))

    def test_less_than_nothing_does_not_make_room(self):
        self.told(False, CROSSED, (2, -1, 0, 2))
        self.told(False, CROSSED, (2, 1, -1, 0))

    def test_no_amount_and_no_room(self):
        none_to_give = (((0, (0,)),), ((9, (0,)),), ((0, 0, 9),))
        none_to_take = (((9, (0,)),), ((0, (0,)),), ((0, 0, 9),))
        for world in (none_to_give, none_to_take):
            self.told(True, world, (0,))
            self.told(False, world, (1,))

    def test_all_numbers_of_small_worlds(self):
        for number, world in enumerate(small_worlds()):
            if number % 7 == 0:
                tried = product(*[range(-1, way[2] + 2) for way in world[2]])
                found = [numbers for numbers in tried if is_plan(world, numbers)]
                self.assertEqual(found, list(plans_by_hand(world)), repr(world))

    def test_odd_things(self):
        for world in WORLDS:
            for thing in ODD_THINGS:
                self.told(False, world, thing)
        for world, thing in LIST_PLANS:
            self.told(False, world, thing)

    def test_too_short_or_too_long(self):
        for world, plan in PLANS:
            self.told(False, world, plan + (0,))
            if plan:
                self.told(False, world, plan[:-1])
                self.told(False, world, ())

    def test_each_number_of_another_kind(self):
        for world, plan in PLANS:
            for number in range(len(plan)):
                for other in (None, True, False, "", "0", "1", [], [0], (), (0,), -1, 10, 10 ** 30):
                    self.told(False, world, plan[:number] + (other,) + plan[number + 1:])


class Turned(unittest.TestCase):
    def test_turned_worlds(self):
        self.assertEqual(turned(ONE), (((4, (0,)),), ((3, (0,)),), ((0, 0, 2),)))
        self.assertEqual(turned(BARE), (((9, ()),), ((0, ()),), ()))
        self.assertEqual(turned(UNEVEN), (
            ((3, (2, 0, 1)), (9, (0, 2))),
            ((5, (1, 0)), (0, (0,)), (4, (0, 1))),
            ((0, 0, 3), (0, 1, 1), (0, 2, 2), (1, 0, 4), (1, 2, 9)),
        ))
        self.assertEqual(turned(TALL), (
            ((9, (3, 0, 1)),),
            ((9, (0,)), (0, (0,)), (1, ()), (3, (0,))),
            ((0, 0, 9), (0, 1, 1), (0, 3, 4)),
        ))

    def test_ways_go_by_their_ends_and_not_by_their_limits(self):
        world = (((1, (0, 1)), (1, (1, 0))), ((1, (0, 1)), (1, (0, 1))), ((0, 0, 9), (0, 1, 3), (1, 0, 1), (1, 1, 2)))
        self.assertEqual(turned(world)[2], ((0, 0, 9), (0, 1, 1), (1, 0, 3), (1, 1, 2)))

    def test_turned_plans(self):
        self.assertEqual(turned_plan(ONE, (2,)), (2,))
        self.assertEqual(turned_plan(BARE, ()), ())
        self.assertEqual(turned_plan(CROSSED, (0, 1, 2, 0)), (0, 2, 1, 0))
        self.assertEqual(turned_plan(UNEVEN, (1, 4, 0, 2, 2)), (1, 0, 2, 4, 2))

    def test_the_turned_are_worlds_and_plans(self):
        for world, plan in PLANS:
            self.assertIs(is_world(turned(world)), True)
            self.assertIs(is_plan(turned(world), turned_plan(world, plan)), True)

    def test_turned_twice(self):
        for world, plan in PLANS:
            self.assertEqual(turned(turned(world)), world)
            self.assertEqual(turned_plan(turned(world), turned_plan(world, plan)), plan)
        for world in small_worlds():
            self.assertEqual(turned(turned(world)), world)

    def test_as_much_goes_between_the_same(self):
        for world, plan in PLANS:
            there = {(giver, taker): many for (giver, taker, _), many in zip(world[2], plan)}
            back = zip(turned(world)[2], turned_plan(world, plan))
            self.assertEqual(there, {(giver, taker): many for (taker, giver, _), many in back})

    def test_told_are_tuples_of_whole_numbers(self):
        self.assertIs(type(turned(UNEVEN)), tuple)
        self.assertIs(type(turned(UNEVEN)[2]), tuple)
        self.assertEqual({type(way) for way in turned(UNEVEN)[2]}, {tuple})
        self.assertIs(type(turned_plan(CROSSED, (1, 0, 0, 1))), tuple)


class Refusals(unittest.TestCase):
    def test_no_world(self):
        for thing in ODD_THINGS + ((), 0):
            assert_refused(self, NoWorld, turned, thing)
            assert_refused(self, NoWorld, turned_plan, thing, ())

    def test_no_plan(self):
        for world in WORLDS:
            for thing in ODD_THINGS:
                assert_refused(self, NoPlan, turned_plan, world, thing)
        for world, thing in LIST_PLANS:
            assert_refused(self, NoPlan, turned_plan, world, thing)

    def test_just_above_limit_amount_and_room(self):
        assert_refused(self, NoPlan, turned_plan, ONE, (3,))
        assert_refused(self, NoPlan, turned_plan, CROSSED, (2, 1, 0, 0))
        assert_refused(self, NoPlan, turned_plan, CROSSED, (2, 0, 1, 0))

    def test_no_world_comes_ahead_of_no_plan(self):
        for thing in ODD_THINGS:
            for other in ODD_THINGS:
                assert_refused(self, NoWorld, turned_plan, thing, other)


if __name__ == "__main__":
    unittest.main()
