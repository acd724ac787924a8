"""Promise 2.2: which ways a pair would leave a plan for, and which plans are at rest."""

import unittest
from itertools import product

from stillflow.errors import NoPlace, NoPlan, NoWorld
from stillflow.flows import leaving, reason, rests
from stillflow.worlds import turned, turned_plan
from tests.examples import (
    BARE, CROSSED, LIST_PLANS, ODD_THINGS, ONE, TALL, UNEVEN, assert_refused, plans_by_hand, reason_by_hand,
    small_worlds,
)


class Rest(unittest.TestCase):
    def told(self, world, plan, reasons):
        """Reasons are of all ways, None of those that a pair would leave for."""
        self.assertEqual([reason(world, plan, way) for way in range(len(plan))], reasons, repr(plan))
        left_for = [way for way, words in enumerate(reasons) if words is None]
        self.assertEqual(leaving(world, plan), left_for, repr(plan))
        self.assertIs(rests(world, plan), left_for == [], repr(plan))

    def test_full_ways(self):
        self.told(ONE, (2,), ["full"])
        self.told(CROSSED, (2, 0, 0, 2), ["full", "giver", "giver", "full"])
        self.told(CROSSED, (0, 2, 2, 0), ["taker", "full", "full", "taker"])

    def test_some_left_at_both_ends(self):
        self.told(ONE, (0,), [None])
        self.told(ONE, (1,), [None])
        self.told(CROSSED, (0, 0, 0, 0), [None, None, None, None])
        self.told(CROSSED, (1, 0, 0, 1), [None, None, None, None])

    def test_some_left_at_one_end(self):
        few_to_give = (((1, (0,)),), ((9, (0,)),), ((0, 0, 2),))
        few_to_take = (((9, (0,)),), ((1, (0,)),), ((0, 0, 2),))
        self.told(few_to_give, (0,), [None])
        self.told(few_to_give, (1,), ["giver"])
        self.told(few_to_take, (0,), [None])
        self.told(few_to_take, (1,), ["taker"])

    def test_the_giver_is_named_ahead_of_the_taker(self):
        world = (((1, (0,)),), ((1, (0,)),), ((0, 0, 2),))
        self.told(world, (1,), ["giver"])

    def test_full_is_named_ahead_of_both(self):
        world = (((1, (0,)),), ((1, (0,)),), ((0, 0, 1),))
        self.told(world, (1,), ["full"])

    def test_nothing_to_give_or_to_take(self):
        self.told((((0, (0,)),), ((9, (0,)),), ((0, 0, 9),)), (0,), ["giver"])
        self.told((((9, (0,)),), ((0, (0,)),), ((0, 0, 9),)), (0,), ["taker"])
        self.told((((0, (0,)),), ((0, (0,)),), ((0, 0, 9),)), (0,), ["giver"])

    def test_some_on_a_less_liked_way(self):
        self.told(CROSSED, (1, 1, 1, 1), ["taker", "giver", "giver", "taker"])
        self.told(CROSSED, (0, 2, 0, 0), [None, "full", None, "taker"])
        self.told(CROSSED, (2, 0, 0, 0), ["full", "giver", None, None])

    def test_a_giver_leaves_a_less_liked_way(self):
        world = (((2, (1, 0)),), ((2, (0,)), (2, (0,))), ((0, 0, 2), (0, 1, 2)))
        self.told(world, (2, 0), ["full", None])
        self.told(world, (1, 1), ["giver", None])
        self.told(world, (0, 2), ["giver", "full"])

    def test_a_taker_leaves_a_less_liked_way(self):
        world = (((2, (0,)), (2, (0,))), ((2, (1, 0)),), ((0, 0, 2), (1, 0, 2)))
        self.told(world, (2, 0), ["full", None])
        self.told(world, (1, 1), ["taker", None])
        self.told(world, (0, 2), ["taker", "full"])

    def test_what_goes_on_the_way_itself_is_not_on_a_less_liked_one(self):
        world = (((2, (0, 1)),), ((3, (0,)), (3, (0,))), ((0, 0, 3), (0, 1, 3)))
        self.told(world, (2, 0), ["giver", "giver"])
        self.told(world, (1, 1), [None, "giver"])
        self.told(world, (0, 2), [None, "giver"])

    def test_without_ways(self):
        self.told(BARE, (), [])

    def test_more_givers_than_takers(self):
        self.told(UNEVEN, (1, 4, 0, 2, 2), ["giver", "full", "giver", "full", "giver"])
        self.told(UNEVEN, (0, 4, 0, 2, 2), [None, "full", "giver", "full", "giver"])
        self.told(UNEVEN, (3, 2, 0, 0, 4), ["full", None, "giver", None, "giver"])
        self.told(TALL, (6, 0, 3), ["taker", "giver", "giver"])
        self.told(TALL, (5, 0, 3), [None, "giver", "giver"])
        self.told(TALL, (9, 0, 0), ["full", "giver", None])

    def test_all_plans_of_small_worlds(self):
        for number, world in enumerate(small_worlds()):
            if number % 5 == 0:
                for plan in plans_by_hand(world):
                    self.told(world, plan, [reason_by_hand(world, plan, way) for way in range(len(plan))])

    def test_some_plan_is_at_rest(self):
        for world in small_worlds():
            self.assertTrue(any(rests(world, plan) for plan in plans_by_hand(world)), repr(world))

    def test_turned_about_the_same_would_leave(self):
        for plan in plans_by_hand(UNEVEN):
            between = [UNEVEN[2][way][:2] for way in leaving(UNEVEN, plan)]
            other = turned(UNEVEN)
            back = [other[2][way][1::-1] for way in leaving(other, turned_plan(UNEVEN, plan))]
            self.assertEqual(sorted(back), between)
            self.assertIs(rests(other, turned_plan(UNEVEN, plan)), between == [])

    def test_told_lists_are_new_ones(self):
        first = leaving(CROSSED, (0, 0, 0, 0))
        self.assertIs(type(first), list)
        first.append(9)
        first[0] = 7
        self.assertEqual(leaving(CROSSED, (0, 0, 0, 0)), [0, 1, 2, 3])
        empty = leaving(BARE, ())
        empty.append(0)
        self.assertEqual(leaving(BARE, ()), [])
        self.assertIs(rests(BARE, ()), True)


class Refusals(unittest.TestCase):
    def test_no_world(self):
        for thing in ODD_THINGS + ((), 0):
            assert_refused(self, NoWorld, leaving, thing, ())
            assert_refused(self, NoWorld, rests, thing, ())
            assert_refused(self, NoWorld, reason, thing, (), 0)

    def test_no_plan(self):
        wrong = [(UNEVEN, thing) for thing in ODD_THINGS] + list(LIST_PLANS) + [(CROSSED, (2, 0, 1, 0)), (ONE, (3,))]
        for world, thing in wrong:
            assert_refused(self, NoPlan, leaving, world, thing)
            assert_refused(self, NoPlan, rests, world, thing)
            assert_refused(self, NoPlan, reason, world, thing, 0)

    def test_no_place(self):
        for thing in ODD_THINGS + ((), 5, 6, -2, -5):
            assert_refused(self, NoPlace, reason, UNEVEN, (0,) * 5, thing)
        self.assertIs(reason(UNEVEN, (0,) * 5, 4), None)
        assert_refused(self, NoPlace, reason, BARE, (), 0)

    def test_which_refusal_comes_first(self):
        for thing, other in product(ODD_THINGS, repeat=2):
            assert_refused(self, NoWorld, leaving, thing, other)
            assert_refused(self, NoWorld, rests, thing, other)
            assert_refused(self, NoWorld, reason, thing, other, None)
            assert_refused(self, NoPlan, reason, UNEVEN, thing, other)


if __name__ == "__main__":
    unittest.main()
