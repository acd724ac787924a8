"""Promise 2.1: what goes in a plan, and what a place chooses."""

import unittest
from itertools import product

from stillflow.errors import NoPlace, NoPlan, NoWorld
from stillflow.flows import choice, sent, taken
from stillflow.worlds import turned, turned_plan
from tests.examples import (
    BARE, CROSSED, FULL, LIST_PLANS, ODD_THINGS, ONE, TALL, UNEVEN, assert_refused, plans_by_hand, small_worlds,
)

UNEVEN_PLAN = (1, 4, 0, 2, 2)


class SentAndTaken(unittest.TestCase):
    def test_sent(self):
        self.assertEqual(sent(ONE, (2,), 0), 2)
        self.assertEqual(sent(BARE, (), 0), 0)
        self.assertEqual([sent(UNEVEN, UNEVEN_PLAN, giver) for giver in range(3)], [5, 0, 4])
        self.assertEqual([sent(TALL, (5, 0, 3), giver) for giver in range(4)], [5, 0, 0, 3])

    def test_taken(self):
        self.assertEqual(taken(ONE, (2,), 0), 2)
        self.assertEqual(taken(BARE, (), 0), 0)
        self.assertEqual([taken(UNEVEN, UNEVEN_PLAN, taker) for taker in range(2)], [3, 6])
        self.assertEqual(taken(TALL, (5, 0, 3), 0), 8)

    def test_in_a_world_of_four_by_four(self):
        plan = (9, 0, 0, 0, 0, 1, 2, 3, 0, 4, 5, 0, 0, 0, 0, 6)
        self.assertEqual([sent(FULL, plan, giver) for giver in range(4)], [9, 6, 9, 6])
        self.assertEqual([taken(FULL, plan, taker) for taker in range(4)], [9, 5, 7, 9])

    def test_turned_about(self):
        for number, world in enumerate(small_worlds()):
            if number % 11 == 0:
                for plan in plans_by_hand(world):
                    other = turned_plan(world, plan)
                    for place in (0, 1):
                        self.assertEqual(sent(world, plan, place), taken(turned(world), other, place))

    def test_all_that_is_sent_is_taken(self):
        for plan in plans_by_hand(UNEVEN):
            out = sum(sent(UNEVEN, plan, giver) for giver in range(3))
            self.assertEqual(out, sum(plan))
            self.assertEqual(out, sum(taken(UNEVEN, plan, taker) for taker in range(2)))

    def test_no_world(self):
        for call in (sent, taken):
            for thing in ODD_THINGS + ((), 0):
                assert_refused(self, NoWorld, call, thing, (), 0)

    def test_no_plan(self):
        for call in (sent, taken):
            for thing in ODD_THINGS:
                assert_refused(self, NoPlan, call, UNEVEN, thing, 0)
            for world, thing in LIST_PLANS:
                assert_refused(self, NoPlan, call, world, thing, 0)
            assert_refused(self, NoPlan, call, CROSSED, (2, 1, 0, 0), 0)

    def test_no_place(self):
        for call in (sent, taken):
            for thing in ODD_THINGS + ((), 4, -2, -3):
                assert_refused(self, NoPlace, call, UNEVEN, UNEVEN_PLAN, thing)

    def test_each_side_has_its_own_numbers(self):
        assert_refused(self, NoPlace, sent, UNEVEN, UNEVEN_PLAN, 3)
        assert_refused(self, NoPlace, taken, UNEVEN, UNEVEN_PLAN, 2)
        self.assertEqual(sent(UNEVEN, UNEVEN_PLAN, 2), 4)
        assert_refused(self, NoPlace, sent, turned(UNEVEN), turned_plan(UNEVEN, UNEVEN_PLAN), 2)
        assert_refused(self, NoPlace, taken, turned(UNEVEN), turned_plan(UNEVEN, UNEVEN_PLAN), 3)

    def test_which_refusal_comes_first(self):
        for call in (sent, taken):
            for thing, other in product(ODD_THINGS, repeat=2):
                assert_refused(self, NoWorld, call, thing, other, None)
                assert_refused(self, NoPlan, call, UNEVEN, thing, other)


class Choice(unittest.TestCase):
    def test_the_most_liked_way_first(self):
        self.assertEqual(choice(UNEVEN, 0, 0, (9, 9, 9, 9, 9)), (1, 4, 0, 0, 0))
        self.assertEqual(choice(UNEVEN, 0, 2, (9, 9, 9, 9, 9)), (0, 0, 0, 2, 2))
        self.assertEqual(choice(UNEVEN, 1, 0, (9, 9, 9, 9, 9)), (1, 0, 0, 2, 0))
        self.assertEqual(choice(UNEVEN, 1, 1, (9, 9, 9, 9, 9)), (0, 4, 0, 0, 5))

    def test_no_more_than_is_offered(self):
        self.assertEqual(choice(UNEVEN, 0, 0, (2, 1, 1, 1, 1)), (2, 1, 0, 0, 0))
        self.assertEqual(choice(UNEVEN, 0, 0, (3, 3, 0, 0, 0)), (2, 3, 0, 0, 0))
        self.assertEqual(choice(UNEVEN, 1, 0, (1, 1, 1, 1, 1)), (1, 0, 1, 1, 0))
        self.assertEqual(choice(UNEVEN, 1, 1, (9, 0, 9, 9, 3)), (0, 0, 0, 0, 3))

    def test_no_more_than_the_limit(self):
        self.assertEqual(choice(ONE, 0, 0, (9,)), (2,))
        self.assertEqual(choice(ONE, 1, 0, (3,)), (2,))
        self.assertEqual(choice(ONE, 0, 0, (10 ** 30,)), (2,))

    def test_no_more_than_the_amount(self):
        self.assertEqual(choice(CROSSED, 0, 0, (2, 2, 2, 2)), (2, 0, 0, 0))
        self.assertEqual(choice(CROSSED, 0, 0, (1, 2, 2, 2)), (1, 1, 0, 0))
        self.assertEqual(choice(CROSSED, 1, 0, (2, 2, 2, 2)), (0, 0, 2, 0))
        self.assertEqual(choice(CROSSED, 1, 0, (2, 2, 1, 2)), (1, 0, 1, 0))

    def test_an_amount_of_nothing(self):
        self.assertEqual(choice(UNEVEN, 0, 1, (9, 9, 9, 9, 9)), (0, 0, 0, 0, 0))
        self.assertEqual(choice(TALL, 0, 1, (1, 1, 1)), (0, 0, 0))

    def test_nothing_on_offer(self):
        for side, places in ((0, 3), (1, 2)):
            for place in range(places):
                self.assertEqual(choice(UNEVEN, side, place, (0,) * 5), (0,) * 5)

    def test_nothing_on_ways_of_other_places(self):
        self.assertEqual(choice(CROSSED, 0, 0, (0, 0, 2, 2)), (0, 0, 0, 0))
        self.assertEqual(choice(CROSSED, 1, 1, (2, 0, 2, 0)), (0, 0, 0, 0))

    def test_a_place_without_ways(self):
        self.assertEqual(choice(BARE, 0, 0, ()), ())
        self.assertEqual(choice(BARE, 1, 0, ()), ())
        self.assertEqual(choice(TALL, 0, 2, (9, 9, 9)), (0, 0, 0))

    def test_offers_need_be_no_plan(self):
        self.assertEqual(choice(TALL, 1, 0, (9, 9, 9)), (5, 0, 4))
        self.assertEqual(choice(TALL, 1, 0, (3, 9, 9)), (3, 1, 4))

    def test_four_by_four(self):
        offers = (1, 2, 3, 4) * 4
        self.assertEqual(choice(FULL, 0, 0, offers), (1, 2, 3, 3) + (0,) * 12)
        self.assertEqual(choice(FULL, 0, 1, offers), (0,) * 4 + (0, 2, 3, 4) + (0,) * 8)
        self.assertEqual(choice(FULL, 1, 3, offers), (0, 0, 0, 4, 0, 0, 0, 4, 0, 0, 0, 0, 0, 0, 0, 1))

    def test_turned_about(self):
        for number, world in enumerate(small_worlds()):
            ways = world[2]
            if number % 13 == 0 and ways:
                offers = tuple((number // 13 + 2 * way) % 4 for way in range(len(ways)))
                order = sorted(range(len(ways)), key=lambda way: (ways[way][1], ways[way][0]))
                other = tuple(offers[way] for way in order)
                for side, place in product((0, 1), repeat=2):
                    chosen = choice(world, side, place, offers)
                    back = choice(turned(world), 1 - side, place, other)
                    self.assertEqual(back, tuple(chosen[way] for way in order))

    def test_told_is_a_tuple(self):
        self.assertIs(type(choice(ONE, 0, 0, (1,))), tuple)

    def test_no_world(self):
        for thing in ODD_THINGS + ((), 0):
            assert_refused(self, NoWorld, choice, thing, 0, 0, ())

    def test_no_place(self):
        offers = (0,) * 5
        for side in (0, 1):
            for thing in ODD_THINGS + ((), 4, -2, -3):
                assert_refused(self, NoPlace, choice, UNEVEN, side, thing, offers)
        assert_refused(self, NoPlace, choice, UNEVEN, 0, 3, offers)
        assert_refused(self, NoPlace, choice, UNEVEN, 1, 2, offers)
        self.assertEqual(choice(UNEVEN, 0, 2, offers), offers)

    def test_no_side(self):
        for thing in ODD_THINGS + ((), 2, -2):
            assert_refused(self, NoPlace, choice, UNEVEN, thing, 0, (0,) * 5)

    def test_no_world_comes_ahead_of_no_place(self):
        for thing, other in product(ODD_THINGS, repeat=2):
            assert_refused(self, NoWorld, choice, thing, 0, other, ())
            assert_refused(self, NoWorld, choice, thing, other, 0, ())


if __name__ == "__main__":
    unittest.main()
