"""Promise 4.1: all plans, all plans at rest, and what is alike in all of these."""

import unittest
from itertools import product

from stillflow.errors import NoPlace, NoWorld, TooMany
from stillflow.listing import all_plans, all_rests, always, is_single, short, totals
from tests.examples import (
    BARE, BLOCKS, CROSSED, FULL, JUST_FEW_ENOUGH, JUST_TOO_MANY, LEFT, ODD_THINGS, ONE, RIVALS, ROUND, TALL, TWICE,
    UNEVEN, assert_refused, drawn_worlds, plans_by_hand, rests_by_hand, small_worlds, world_of_limits,
)

LISTS = (all_plans, all_rests, always)
FEW = (ONE, BARE, CROSSED, TALL, ROUND, TWICE, LEFT, BLOCKS)


def sums_by_hand(world, plan):
    return tuple(
        tuple(sum(many for way, many in zip(world[2], plan) if way[side] == place) for place in range(len(world[side])))
        for side in (0, 1)
    )


class Lists(unittest.TestCase):
    def test_all_plans(self):
        self.assertEqual(all_plans(ONE), [(0,), (1,), (2,)])
        self.assertEqual(all_plans(BARE), [()])
        two = (((2, (1, 0)),), ((1, (0,)), (2, (0,))), ((0, 0, 2), (0, 1, 2)))
        self.assertEqual(all_plans(two), [(0, 0), (0, 1), (0, 2), (1, 0), (1, 1)])

    def test_all_plans_by_hand(self):
        for world in FEW + JUST_FEW_ENOUGH + (UNEVEN,):
            self.assertEqual(all_plans(world), list(plans_by_hand(world)))
        for world in drawn_worlds(200):
            self.assertEqual(all_plans(world), list(plans_by_hand(world)), repr(world))

    def test_all_rests(self):
        self.assertEqual(all_rests(ONE), [(2,)])
        self.assertEqual(all_rests(BARE), [()])
        self.assertEqual(all_rests(CROSSED), [(0, 2, 2, 0), (1, 1, 1, 1), (2, 0, 0, 2)])
        self.assertEqual(all_rests(UNEVEN), [(1, 4, 0, 2, 2)])
        self.assertEqual(all_rests(TWICE), [(0, 2, 0, 2)])
        round_about = [(0, 0, 1, 1, 0, 0, 0, 1, 0), (0, 1, 0, 0, 0, 1, 1, 0, 0), (1, 0, 0, 0, 1, 0, 0, 0, 1)]
        self.assertEqual(all_rests(ROUND), round_about)
        sides = ([(0, 2, 2, 0), (1, 1, 1, 1), (2, 0, 0, 2)], [(0, 1, 1, 0), (1, 0, 0, 1)])
        self.assertEqual(all_rests(BLOCKS), [one + other for one, other in product(*sides)])

    def test_all_rests_by_hand(self):
        for world in FEW + JUST_FEW_ENOUGH + (UNEVEN,):
            self.assertEqual(all_rests(world), rests_by_hand(world))
        for world in list(small_worlds()) + drawn_worlds(600):
            self.assertEqual(all_rests(world), rests_by_hand(world), repr(world))

    def test_rising_and_none_twice(self):
        for world in FEW + JUST_FEW_ENOUGH:
            for told in (all_plans(world), all_rests(world), always(world)):
                self.assertIs(type(told), list)
                self.assertEqual(told, sorted(set(told)))

    def test_parts_are_tuples_of_whole_numbers(self):
        for world in FEW:
            for part in all_plans(world) + all_rests(world) + always(world):
                self.assertIs(type(part), tuple)
                self.assertTrue(all(type(number) is int for number in part))

    def test_just_few_enough(self):
        for world in JUST_FEW_ENOUGH:
            for call in LISTS:
                self.assertIs(type(call(world)), list)
        self.assertEqual(len(all_plans(world_of_limits((9, 9, 9, 2), 9))), 220 + 165 + 120)

    def test_too_many(self):
        for world in JUST_TOO_MANY + (FULL, RIVALS):
            for call in LISTS:
                assert_refused(self, TooMany, call, world)

    def test_limits_are_counted_and_not_plans(self):
        for amount in (0, 1):
            few = world_of_limits((9, 9, 9, 2), amount)
            many = world_of_limits((6, 7, 8, 5), amount)
            self.assertEqual(len(all_plans(few)), 1 if amount == 0 else 5)
            for call in LISTS:
                assert_refused(self, TooMany, call, many)


class Alike(unittest.TestCase):
    def test_is_single(self):
        for world in (ONE, BARE, UNEVEN, TALL, TWICE):
            self.assertIs(is_single(world), True)
        for world in (CROSSED, ROUND, BLOCKS):
            self.assertIs(is_single(world), False)

    def test_always(self):
        self.assertEqual(always(ONE), [(0, 2)])
        self.assertEqual(always(BARE), [])
        self.assertEqual(always(UNEVEN), [(0, 1), (1, 4), (2, 0), (3, 2), (4, 2)])
        self.assertEqual(always(CROSSED), [])

    def test_always_where_some_ways_are_alike(self):
        self.assertEqual(always(LEFT), [(4, 3)])
        one_and_crossed = (
            ((3, (0,)), (2, (1, 2)), (2, (2, 1))),
            ((4, (0,)), (2, (2, 1)), (2, (1, 2))),
            ((0, 0, 3), (1, 1, 2), (1, 2, 2), (2, 1, 2), (2, 2, 2)),
        )
        self.assertEqual(always(one_and_crossed), [(0, 3)])

    def test_a_way_that_is_in_neither_of_the_best_plans(self):
        self.assertEqual(always(ROUND), [])

    def test_totals(self):
        self.assertEqual(totals(ONE), ((2,), (2,)))
        self.assertEqual(totals(BARE), ((0,), (0,)))
        self.assertEqual(totals(CROSSED), ((2, 2), (2, 2)))
        self.assertEqual(totals(UNEVEN), ((5, 0, 4), (3, 6)))
        self.assertEqual(totals(TALL), ((6, 0, 0, 3), (9,)))
        self.assertEqual(totals(TWICE), ((0, 2, 2), (2, 2)))

    def test_short(self):
        self.assertEqual((short(ONE, 0), short(ONE, 1)), ([0], [0]))
        self.assertEqual((short(BARE, 0), short(BARE, 1)), ([], [0]))
        self.assertEqual((short(CROSSED, 0), short(CROSSED, 1)), ([], []))
        self.assertEqual((short(UNEVEN, 0), short(UNEVEN, 1)), ([], [1]))
        self.assertEqual((short(TALL, 0), short(TALL, 1)), ([0, 2], []))
        self.assertEqual((short(TWICE, 0), short(TWICE, 1)), ([0], []))
        self.assertEqual((short(LEFT, 0), short(LEFT, 1)), ([], [2]))
        self.assertIs(type(short(TALL, 0)), list)

    def test_by_hand(self):
        for world in list(small_worlds()) + drawn_worlds(600):
            found = rests_by_hand(world)
            self.assertIs(is_single(world), len(found) == 1, repr(world))
            same = [(way, found[0][way]) for way in range(len(world[2])) if len({plan[way] for plan in found}) == 1]
            self.assertEqual(always(world), same, repr(world))
            for plan in found:
                sums = sums_by_hand(world, plan)
                self.assertEqual(totals(world), sums, repr(world))
                for side in (0, 1):
                    less = [place for place, many in enumerate(sums[side]) if many < world[side][place][0]]
                    self.assertEqual(short(world, side), less, repr(world))

    def test_the_greatest_worlds_are_answered(self):
        self.assertIs(is_single(FULL), False)
        self.assertIs(is_single(RIVALS), True)
        for world in (FULL, RIVALS):
            self.assertEqual(totals(world), ((9,) * 4, (9,) * 4))
            self.assertEqual((short(world, 0), short(world, 1)), ([], []))
        wide = (((9, (0, 1, 2, 3)),) * 4, ((8, (3, 2, 1, 0)),) * 4, FULL[2])
        self.assertIs(is_single(wide), True)
        self.assertEqual(totals(wide), ((5, 9, 9, 9), (8,) * 4))
        self.assertEqual((short(wide, 0), short(wide, 1)), ([0], []))
        for world in JUST_TOO_MANY:
            self.assertIs(is_single(world), True)


class Refusals(unittest.TestCase):
    def test_no_world(self):
        for thing in ODD_THINGS + ((), 0):
            for call in (all_plans, all_rests, always, is_single, totals):
                assert_refused(self, NoWorld, call, thing)
            for side in (0, 1):
                assert_refused(self, NoWorld, short, thing, side)

    def test_no_place(self):
        for world in (ONE, UNEVEN, FULL):
            for thing in ODD_THINGS + ((), 2, 3, 4, -2):
                assert_refused(self, NoPlace, short, world, thing)

    def test_no_world_comes_ahead_of_no_place(self):
        for thing, other in product(ODD_THINGS, repeat=2):
            assert_refused(self, NoWorld, short, thing, other)

    def test_no_world_comes_ahead_of_too_many(self):
        givers, takers, ways = FULL
        for thing in ((givers, takers, list(ways)), (givers, takers, ways[::-1]), (givers, takers, ways + ways[:1])):
            for call in LISTS:
                assert_refused(self, NoWorld, call, thing)


if __name__ == "__main__":
    unittest.main()
