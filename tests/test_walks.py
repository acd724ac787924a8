"""Promise 11.1: plans that a pair leaves, and walks from plan to plan."""

import unittest

from stillflow.errors import NoPlace, NoPlan, NoWorld
from stillflow.finding import givers_best, takers_best
from stillflow.walks import comes_to_rest, pushed, walk
from tests.examples import (
    AT_ONCE, BARE, CIRCLE, CIRCLE_WALK, CROSSED, FULL, LEFT, ODD_THINGS, ONE, RIVALS, ROUND, TALL, TWICE, UNEVEN,
    WORLDS, assert_refused, drawn_worlds, leaving_by_hand, plans_by_hand, pushed_by_hand, rests_by_hand, walk_by_hand,
)

FEW = (ONE, BARE, CROSSED, TALL, ROUND, TWICE, AT_ONCE, CIRCLE, LEFT)

# One giver, who likes takers 0 to 3 in this order, and has nothing left in some plans.
FAN = (
    ((3, (0, 1, 2, 3)),),
    ((3, (0,)), (3, (0,)), (3, (0,)), (3, (0,))),
    ((0, 0, 3), (0, 1, 3), (0, 2, 3), (0, 3, 3)),
)


class Pushed(unittest.TestCase):
    def test_both_ends_have_some_left(self):
        self.assertEqual(pushed(ONE, (0,), 0), (1,))
        self.assertEqual(pushed(ONE, (1,), 0), (2,))
        self.assertEqual(pushed(CROSSED, (1, 0, 0, 1), 3), (1, 0, 0, 2))

    def test_the_giver_has_none_left(self):
        self.assertEqual(pushed(CROSSED, (0, 2, 0, 0), 0), (1, 1, 0, 0))
        self.assertEqual(pushed(CROSSED, (1, 1, 0, 0), 0), (2, 0, 0, 0))

    def test_the_taker_has_none_left(self):
        self.assertEqual(pushed(CROSSED, (2, 0, 0, 0), 2), (1, 0, 1, 0))

    def test_both_have_none_left(self):
        # Both ends of way 0 like it most, and have all of theirs on the other ways.
        both = (
            ((2, (0, 1)), (2, (0,))), ((2, (0, 1)), (2, (0,))), ((0, 0, 2), (0, 1, 2), (1, 0, 2)),
        )
        self.assertEqual(pushed(both, (0, 2, 2), 0), (1, 1, 1))
        self.assertEqual(pushed(both, (1, 1, 1), 0), (2, 0, 0))

    def test_the_least_liked_way_with_something_on_it(self):
        self.assertEqual(pushed(FAN, (0, 1, 1, 1), 0), (1, 1, 1, 0))
        self.assertEqual(pushed(FAN, (0, 0, 1, 2), 1), (0, 1, 1, 1))
        self.assertEqual(pushed(FAN, (0, 1, 1, 1), 2), (0, 1, 2, 0))

    def test_nothing_goes_on_one_that_is_liked_less(self):
        self.assertEqual(pushed(FAN, (0, 1, 2, 0), 0), (1, 1, 1, 0))
        self.assertEqual(pushed(FAN, (0, 3, 0, 0), 0), (1, 2, 0, 0))
        self.assertEqual(pushed(FAN, (1, 2, 0, 0), 0), (2, 1, 0, 0))

    def test_by_hand(self):
        for world in FEW + (FAN,) + tuple(drawn_worlds(60)):
            plans = list(plans_by_hand(world))
            for plan in plans:
                for way in leaving_by_hand(world, plan):
                    told = pushed(world, plan, way)
                    self.assertEqual(told, pushed_by_hand(world, plan, way), (world, plan, way))
                    self.assertIn(told, plans)

    def test_ways_that_are_not_among_leaving(self):
        assert_refused(self, NoPlace, pushed, ONE, (2,), 0)
        for way in (0, 1, 2, 3):
            assert_refused(self, NoPlace, pushed, CROSSED, (2, 0, 0, 2), way)
        for world in FEW + tuple(drawn_worlds(20)):
            for plan in plans_by_hand(world):
                for way in range(len(plan)):
                    if way not in leaving_by_hand(world, plan):
                        assert_refused(self, NoPlace, pushed, world, plan, way)

    def test_numbers_that_no_way_has_and_other_things(self):
        # All of 0, 1, 2 and 3 are among leaving here, so a truth would be, too, if it were taken for a number.
        for thing in ODD_THINGS + ((), 4, -2, -4, [0], (0,), "1", None, True, False):
            assert_refused(self, NoPlace, pushed, CROSSED, (0, 0, 0, 0), thing)
        assert_refused(self, NoPlace, pushed, BARE, (), 0)

    def test_no_world_ahead_of_no_plan_ahead_of_no_place(self):
        for thing in ODD_THINGS + ((), 0):
            assert_refused(self, NoWorld, pushed, thing, (0, 0, 0, 0), 0)
            assert_refused(self, NoWorld, pushed, thing, None, None)
            assert_refused(self, NoPlan, pushed, CROSSED, thing, 0)
            assert_refused(self, NoPlan, pushed, CROSSED, thing, None)


class Walk(unittest.TestCase):
    def told(self, world, plans, rests):
        self.assertEqual(walk(world, plans[0]), plans)
        self.assertIs(comes_to_rest(world, plans[0]), rests)

    def test_of_a_plan_at_rest(self):
        for world in FEW:
            for plan in rests_by_hand(world):
                self.told(world, [plan], True)
        for world in WORLDS:
            for plan in (givers_best(world), takers_best(world)):
                self.told(world, [plan], True)

    def test_that_comes_to_rest(self):
        self.told(ONE, [(0,), (1,), (2,)], True)
        self.told(CROSSED, [
            (0, 0, 0, 0), (1, 0, 0, 0), (2, 0, 0, 0), (1, 0, 1, 0), (1, 1, 1, 0), (0, 1, 2, 0), (0, 2, 2, 0),
        ], True)
        self.told(FAN, [(0, 0, 1, 2), (1, 0, 1, 1), (2, 0, 1, 0), (3, 0, 0, 0)], True)

    def test_that_comes_back_to_where_it_began(self):
        self.told(CIRCLE, CIRCLE_WALK, False)
        for number in range(len(CIRCLE_WALK)):
            self.told(CIRCLE, CIRCLE_WALK[number:] + CIRCLE_WALK[:number], False)

    def test_that_comes_back_to_another_plan_of_it(self):
        for world, begin in ((ROUND, (0,) * 9), (CIRCLE, (0, 0, 0, 0, 0, 1, 0))):
            plans = walk_by_hand(world, begin)
            further = pushed_by_hand(world, plans[-1], leaving_by_hand(world, plans[-1])[0])
            self.assertGreater(plans.index(further), 0)
            self.told(world, plans, False)

    def test_by_hand(self):
        ends = []
        for world in FEW + (FAN,) + tuple(drawn_worlds(100)):
            for plan in plans_by_hand(world):
                expected = walk_by_hand(world, plan)
                ends.append(leaving_by_hand(world, expected[-1]) == [])
                self.told(world, expected, ends[-1])
        self.assertGreater(ends.count(False), 10)

    def test_of_great_worlds(self):
        for world, many in ((FULL, 99), (RIVALS, 91)):
            nothing = (0,) * 16
            self.assertEqual(walk(world, nothing), walk_by_hand(world, nothing))
            self.assertEqual(len(walk(world, nothing)), many)
            self.assertIs(comes_to_rest(world, nothing), True)

    def test_of_no_ways(self):
        self.told(BARE, [()], True)

    def test_no_world_ahead_of_no_plan(self):
        for call in (walk, comes_to_rest):
            for thing in ODD_THINGS + ((), 0):
                assert_refused(self, NoWorld, call, thing, (1, 4, 0, 2, 2))
                assert_refused(self, NoWorld, call, thing, None)
                assert_refused(self, NoPlan, call, UNEVEN, thing)
            for thing in ([0, 0, 0, 0, 0], (0, 0, 0, 0), (0, 0, 1, 0, 0), (0, 0, 0, 0, False)):
                assert_refused(self, NoPlan, call, UNEVEN, thing)


if __name__ == "__main__":
    unittest.main()
