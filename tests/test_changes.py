"""Promise 6.1: worlds with more, or less."""

import unittest
from itertools import product

from stillflow.changes import with_amount, with_limit, with_way, without_way
from stillflow.errors import NoPlace, NoWorld
from stillflow.worlds import is_world
from tests.examples import (
    BARE, CROSSED, FULL, ODD_THINGS, ONE, TALL, UNEVEN, WORLDS, assert_refused, drawn_worlds, small_worlds,
)

MANY = WORLDS + tuple(drawn_worlds(60)) + tuple(list(small_worlds())[::17])

# Three by three, with all ways but that from giver 1 to taker 1.
GAP = (
    ((3, (2, 0, 1)), (4, (2, 0)), (5, (0, 1, 2))),
    ((3, (1, 0, 2)), (4, (2, 0)), (5, (0, 2, 1))),
    ((0, 0, 1), (0, 1, 2), (0, 2, 3), (1, 0, 4), (1, 2, 5), (2, 0, 6), (2, 1, 7), (2, 2, 8)),
)


def without_way_by_hand(world, number):
    giver, taker, _ = world[2][number]
    givers = [
        (amount, tuple(other for other in likes if (place, other) != (giver, taker)))
        for place, (amount, likes) in enumerate(world[0])
    ]
    takers = [
        (amount, tuple(other for other in likes if (other, place) != (giver, taker)))
        for place, (amount, likes) in enumerate(world[1])
    ]
    return (tuple(givers), tuple(takers), tuple(way for each, way in enumerate(world[2]) if each != number))


class WithAmount(unittest.TestCase):
    def test_of_givers(self):
        self.assertEqual(with_amount(ONE, 0, 0, 0), (((0, (0,)),), ((4, (0,)),), ((0, 0, 2),)))
        self.assertEqual(with_amount(ONE, 0, 0, 9), (((9, (0,)),), ((4, (0,)),), ((0, 0, 2),)))
        changed = with_amount(UNEVEN, 0, 1, 7)
        self.assertEqual(changed, (((5, (1, 0)), (7, (0,)), (4, (0, 1))), UNEVEN[1], UNEVEN[2]))

    def test_of_takers(self):
        self.assertEqual(with_amount(ONE, 1, 0, 0), (((3, (0,)),), ((0, (0,)),), ((0, 0, 2),)))
        changed = with_amount(UNEVEN, 1, 1, 8)
        self.assertEqual(changed, (UNEVEN[0], ((3, (2, 0, 1)), (8, (0, 2))), UNEVEN[2]))

    def test_each_amount_of_each_place(self):
        for world in MANY:
            for side in (0, 1):
                for place in range(len(world[side])):
                    for amount in range(10):
                        changed = with_amount(world, side, place, amount)
                        self.assertIs(is_world(changed), True)
                        expected = list(world[side])
                        expected[place] = (amount, expected[place][1])
                        self.assertEqual(changed[side], tuple(expected))
                        self.assertEqual((changed[1 - side], changed[2]), (world[1 - side], world[2]))

    def test_the_same_amount_is_no_change(self):
        self.assertEqual(with_amount(UNEVEN, 0, 2, 4), UNEVEN)

    def test_no_amount(self):
        for side in (0, 1):
            for thing in ODD_THINGS + ((), -1, 10, 11, -10):
                assert_refused(self, NoPlace, with_amount, UNEVEN, side, 0, thing)

    def test_no_place(self):
        for side in (0, 1):
            for thing in ODD_THINGS + ((), 3 - side, 4, -2, -3):
                assert_refused(self, NoPlace, with_amount, UNEVEN, side, thing, 5)
        for thing in ODD_THINGS + ((), 2, -2):
            assert_refused(self, NoPlace, with_amount, UNEVEN, thing, 0, 5)


class WithLimit(unittest.TestCase):
    def test_another_limit(self):
        self.assertEqual(with_limit(ONE, 0, 9), (((3, (0,)),), ((4, (0,)),), ((0, 0, 9),)))
        changed = with_limit(UNEVEN, 2, 7)
        ways = ((0, 0, 3), (0, 1, 4), (1, 0, 7), (2, 0, 2), (2, 1, 9))
        self.assertEqual(changed, (UNEVEN[0], UNEVEN[1], ways))

    def test_each_limit_of_each_way(self):
        for world in MANY:
            for number, way in enumerate(world[2]):
                for limit in range(1, 10):
                    changed = with_limit(world, number, limit)
                    self.assertIs(is_world(changed), True)
                    expected = list(world[2])
                    expected[number] = (way[0], way[1], limit)
                    self.assertEqual(changed, (world[0], world[1], tuple(expected)))

    def test_no_limit(self):
        for thing in ODD_THINGS + ((), 0, 10, -1, 11):
            assert_refused(self, NoPlace, with_limit, UNEVEN, 1, thing)

    def test_no_way(self):
        for thing in ODD_THINGS + ((), 5, 6, -2, -5):
            assert_refused(self, NoPlace, with_limit, UNEVEN, thing, 3)
        assert_refused(self, NoPlace, with_limit, BARE, 0, 3)
        assert_refused(self, NoPlace, with_limit, FULL, 16, 3)
        self.assertIs(is_world(with_limit(FULL, 15, 3)), True)


class WithoutWay(unittest.TestCase):
    def test_out_of_the_likes_of_both_ends(self):
        self.assertEqual(without_way(ONE, 0), (((3, ()),), ((4, ()),), ()))
        self.assertEqual(without_way(CROSSED, 0), (
            ((2, (1,)), (2, (1, 0))),
            ((2, (1,)), (2, (0, 1))),
            ((0, 1, 2), (1, 0, 2), (1, 1, 2)),
        ))
        self.assertEqual(without_way(UNEVEN, 3), (
            ((5, (1, 0)), (0, (0,)), (4, (1,))),
            ((3, (0, 1)), (9, (0, 2))),
            ((0, 0, 3), (0, 1, 4), (1, 0, 1), (2, 1, 9)),
        ))

    def test_each_way(self):
        for world in MANY:
            for number in range(len(world[2])):
                changed = without_way(world, number)
                self.assertIs(is_world(changed), True)
                self.assertEqual(changed, without_way_by_hand(world, number))

    def test_all_ways_one_behind_the_other(self):
        world = FULL
        for many in range(16, 0, -1):
            self.assertEqual(len(world[2]), many)
            world = without_way(world, many * 5 % 7 % many)
        self.assertEqual(world, (((9, ()),) * 4, ((9, ()),) * 4, ()))

    def test_no_way(self):
        for thing in ODD_THINGS + ((), 5, 6, -2, -5):
            assert_refused(self, NoPlace, without_way, UNEVEN, thing)
        assert_refused(self, NoPlace, without_way, BARE, 0)
        assert_refused(self, NoPlace, without_way, FULL, 16)


class WithWay(unittest.TestCase):
    def likes_then(self, at_giver, at_taker):
        changed = with_way(GAP, 1, 1, 9, at_giver, at_taker)
        self.assertIs(is_world(changed), True)
        self.assertEqual(changed[2], GAP[2][:4] + ((1, 1, 9),) + GAP[2][4:])
        self.assertEqual((changed[0][0], changed[0][2], changed[1][0], changed[1][2]), (
            GAP[0][0], GAP[0][2], GAP[1][0], GAP[1][2],
        ))
        self.assertEqual((changed[0][1][0], changed[1][1][0]), (4, 4))
        return (changed[0][1][1], changed[1][1][1])

    def test_ahead_of_the_first(self):
        self.assertEqual(self.likes_then(0, 0), ((1, 2, 0), (1, 2, 0)))

    def test_between(self):
        self.assertEqual(self.likes_then(1, 1), ((2, 1, 0), (2, 1, 0)))

    def test_behind_all(self):
        self.assertEqual(self.likes_then(2, 2), ((2, 0, 1), (2, 0, 1)))

    def test_at_each_end_by_itself(self):
        self.assertEqual(self.likes_then(0, 2), ((1, 2, 0), (2, 0, 1)))
        self.assertEqual(self.likes_then(2, 0), ((2, 0, 1), (1, 2, 0)))
        self.assertEqual(self.likes_then(1, 0), ((2, 1, 0), (1, 2, 0)))

    def test_the_first_way(self):
        self.assertEqual(with_way(BARE, 0, 0, 1, 0, 0), (((0, (0,)),), ((9, (0,)),), ((0, 0, 1),)))

    def test_more_givers_than_takers(self):
        self.assertEqual(with_way(TALL, 2, 0, 7, 0, 3), (
            ((9, (0,)), (0, (0,)), (1, (0,)), (3, (0,))),
            ((9, (3, 0, 1, 2)),),
            ((0, 0, 9), (1, 0, 1), (2, 0, 7), (3, 0, 4)),
        ))
        self.assertEqual(with_way(UNEVEN, 1, 1, 3, 1, 0), (
            ((5, (1, 0)), (0, (0, 1)), (4, (0, 1))),
            ((3, (2, 0, 1)), (9, (1, 0, 2))),
            ((0, 0, 3), (0, 1, 4), (1, 0, 1), (1, 1, 3), (2, 0, 2), (2, 1, 9)),
        ))

    def test_a_way_that_was_taken_out_comes_back(self):
        for world in MANY:
            for number, (giver, taker, limit) in enumerate(world[2]):
                at_giver = world[0][giver][1].index(taker)
                at_taker = world[1][taker][1].index(giver)
                back = with_way(without_way(world, number), giver, taker, limit, at_giver, at_taker)
                self.assertEqual(back, world)

    def test_each_limit(self):
        for limit in range(1, 10):
            self.assertEqual(with_way(BARE, 0, 0, limit, 0, 0)[2], ((0, 0, limit),))

    def test_such_a_way_already(self):
        for world in (ONE, CROSSED, UNEVEN, FULL, TALL):
            for giver, taker, limit in world[2]:
                for at_giver, at_taker in product((0, 1), repeat=2):
                    assert_refused(self, NoPlace, with_way, world, giver, taker, limit, at_giver, at_taker)
                    assert_refused(self, NoPlace, with_way, world, giver, taker, 10 - limit, at_giver, at_taker)

    def test_each_number_that_is_none(self):
        right = (1, 1, 9, 1, 1)
        none = ((), -1, -2, 10), ((), -1, -2, 10), ((), 0, 10, -1), ((), 3, 4, -1, -2), ((), 3, 4, -1, -2)
        for number, more in enumerate(none):
            for thing in ODD_THINGS + more:
                handed = right[:number] + (thing,) + right[number + 1:]
                assert_refused(self, NoPlace, with_way, GAP, *handed)

    def test_each_side_has_its_own_numbers(self):
        assert_refused(self, NoPlace, with_way, TALL, 2, 1, 1, 0, 0)
        assert_refused(self, NoPlace, with_way, TALL, 4, 0, 1, 0, 0)
        assert_refused(self, NoPlace, with_way, TALL, 2, 0, 1, 1, 0)
        assert_refused(self, NoPlace, with_way, TALL, 2, 0, 1, 0, 4)
        assert_refused(self, NoPlace, with_way, GAP, 3, 1, 1, 0, 0)
        assert_refused(self, NoPlace, with_way, GAP, 1, 3, 1, 0, 0)


class NoWorldFirst(unittest.TestCase):
    def test_no_world(self):
        for thing in ODD_THINGS + ((), 0, GAP[:2], list(GAP)):
            assert_refused(self, NoWorld, with_amount, thing, 0, 0, 1)
            assert_refused(self, NoWorld, with_limit, thing, 0, 1)
            assert_refused(self, NoWorld, without_way, thing, 0)
            assert_refused(self, NoWorld, with_way, thing, 0, 0, 1, 0, 0)

    def test_no_world_comes_ahead_of_no_place(self):
        for thing, other in product(ODD_THINGS, repeat=2):
            assert_refused(self, NoWorld, with_amount, thing, other, 0, 1)
            assert_refused(self, NoWorld, with_amount, thing, 0, other, other)
            assert_refused(self, NoWorld, with_limit, thing, other, other)
            assert_refused(self, NoWorld, without_way, thing, other)
            assert_refused(self, NoWorld, with_way, thing, other, other, other, other, other)


if __name__ == "__main__":
    unittest.main()
