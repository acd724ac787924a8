"""Promise 1.1: which things are worlds."""

import unittest
from itertools import product

from stillflow.worlds import is_world
from tests.examples import BARE, CROSSED, FULL, ODD_THINGS, ONE, TALL, UNEVEN, WORLDS, small_worlds

# All places of these have a way, so that none can be left out or put in twice.
TIGHT = (ONE, CROSSED, UNEVEN, FULL)


def positions(thing, path=()):
    """The paths to all parts of nested tuples, the whole among them."""
    yield path
    if isinstance(thing, tuple):
        for number, part in enumerate(thing):
            yield from positions(part, path + (number,))


def part_at(thing, path):
    for number in path:
        thing = thing[number]
    return thing


def replaced(thing, path, part):
    if not path:
        return part
    inner = replaced(thing[path[0]], path[1:], part)
    return thing[:path[0]] + (inner,) + thing[path[0] + 1:]


def with_sides(givers, takers, ways=()):
    return (givers, takers, ways)


class IsWorld(unittest.TestCase):
    def told(self, expected, thing):
        self.assertIs(is_world(thing), expected, repr(thing))

    def test_worlds(self):
        for world in WORLDS:
            self.told(True, world)

    def test_small_worlds(self):
        for world in small_worlds():
            self.told(True, world)

    def test_from_one_to_four_on_each_side(self):
        for givers, takers in product(range(7), repeat=2):
            expected = 1 <= givers <= 4 and 1 <= takers <= 4
            self.told(expected, with_sides(((0, ()),) * givers, ((0, ()),) * takers))

    def test_four_by_four_with_all_ways_and_none_further(self):
        givers, takers, ways = FULL
        fifth = (9, (0,))
        liked = ((9, takers[0][1] + (4,)),) + takers[1:]
        self.told(False, (givers + (fifth,), liked, ways + ((4, 0, 9),)))

    def test_amounts_from_0_to_9(self):
        for amount in range(-3, 13):
            expected = 0 <= amount <= 9
            self.told(expected, with_sides(((amount, ()),), ((3, ()),)))
            self.told(expected, with_sides(((3, ()),), ((amount, ()),)))
            self.told(expected, replaced(CROSSED, (0, 1, 0), amount))
            self.told(expected, replaced(CROSSED, (1, 1, 0), amount))

    def test_limits_from_1_to_9(self):
        for limit in range(-3, 13):
            self.told(1 <= limit <= 9, replaced(ONE, (2, 0, 2), limit))
            self.told(1 <= limit <= 9, replaced(UNEVEN, (2, 4, 2), limit))

    def test_odd_things(self):
        for thing in ODD_THINGS:
            self.told(False, thing)
        self.told(False, ())
        self.told(False, 0)

    def test_each_part_of_another_kind(self):
        others = (None, True, False, "", "0", "1", [], [0], -1, 10, 10 ** 30, (None,), (True,), ("0",), ([],))
        for world in TIGHT + (TALL, BARE):
            for path in positions(world):
                for other in others:
                    self.told(False, replaced(world, path, other))

    def test_truths_that_are_equal_to_the_numbers(self):
        for world in TIGHT:
            for path in positions(world):
                part = part_at(world, path)
                if part in (0, 1):
                    self.told(False, replaced(world, path, bool(part)))

    def test_texts_that_write_the_numbers(self):
        for world in TIGHT:
            for path in positions(world):
                part = part_at(world, path)
                if isinstance(part, int):
                    self.told(False, replaced(world, path, str(part)))

    def test_lists_in_the_place_of_tuples(self):
        for world in WORLDS:
            for path in positions(world):
                part = part_at(world, path)
                if isinstance(part, tuple):
                    self.told(False, replaced(world, path, list(part)))

    def test_each_tuple_too_short_or_too_long(self):
        for world in TIGHT:
            for path in positions(world):
                part = part_at(world, path)
                if isinstance(part, tuple):
                    self.told(False, replaced(world, path, part[:-1]))
                    self.told(False, replaced(world, path, part[1:]))
                    self.told(False, replaced(world, path, part + part[-1:]))
                    self.told(False, replaced(world, path, part + (0,)))
                    self.told(False, replaced(world, path, ()))

    def test_likes_with_a_number_that_no_place_has(self):
        for number in (-2, -1, 2, 3, 4):
            self.told(False, replaced(CROSSED, (0, 0, 1), (0, 1, number)))
            self.told(False, replaced(CROSSED, (1, 0, 1), (number, 1, 0)))
            self.told(False, replaced(CROSSED, (0, 0, 1, 1), number))
            self.told(False, with_sides(((1, (number,)),), ((1, ()),)))
            self.told(False, with_sides(((1, ()),), ((1, (number,)),)))

    def test_a_negative_number_is_no_place_though_python_finds_one(self):
        self.told(False, (((1, (-1,)),), ((1, (-1,)),), ((-1, -1, 1),)))
        self.told(False, (((1, (-1,)),), ((1, (0,)),), ((0, -1, 1),)))

    def test_ways_to_no_place(self):
        for number in (-1, 1, 2, 4):
            self.told(False, replaced(ONE, (2, 0, 0), number))
            self.told(False, replaced(ONE, (2, 0, 1), number))
            self.told(False, replaced(BARE, (2,), ((number, 0, 1),)))

    def test_ways_in_another_order(self):
        ways = CROSSED[2]
        self.told(False, replaced(CROSSED, (2,), ways[::-1]))
        for number in range(3):
            swapped = ways[:number] + (ways[number + 1], ways[number]) + ways[number + 2:]
            self.told(False, replaced(CROSSED, (2,), swapped))

    def test_two_ways_between_the_same(self):
        self.told(False, replaced(ONE, (2,), ((0, 0, 2), (0, 0, 2))))
        self.told(False, replaced(ONE, (2,), ((0, 0, 2), (0, 0, 3))))
        self.told(False, replaced(ONE, (2,), ((0, 0, 3), (0, 0, 2))))

    def test_limits_need_not_rise(self):
        self.told(True, replaced(CROSSED, (2,), ((0, 0, 9), (0, 1, 1), (1, 0, 5), (1, 1, 2))))

    def test_a_way_without_both_likes(self):
        self.told(False, with_sides(((1, ()),), ((1, ()),), ((0, 0, 1),)))
        self.told(False, with_sides(((1, (0,)),), ((1, ()),), ((0, 0, 1),)))
        self.told(False, with_sides(((1, ()),), ((1, (0,)),), ((0, 0, 1),)))

    def test_likes_without_a_way(self):
        self.told(False, with_sides(((1, (0,)),), ((1, ()),)))
        self.told(False, with_sides(((1, ()),), ((1, (0,)),)))
        self.told(False, with_sides(((1, (0,)),), ((1, (0,)),)))

    def test_just_these_of_all_that_two_givers_and_a_taker_may_like(self):
        giver_likes = ((), (0,), (0, 0), (1,))
        taker_likes = ((), (0,), (1,), (0, 1), (1, 0), (0, 0), (1, 1), (0, 1, 0))
        first, other = (0, 0, 1), (1, 0, 1)
        rows = ((), (first,), (other,), (first, other), (other, first), (first, first), (other, other))
        found = [
            (one, two, taker, ways)
            for one, two, taker, ways in product(giver_likes, giver_likes, taker_likes, rows)
            if is_world((((1, one), (1, two)), ((1, taker),), ways))
        ]
        self.assertEqual(found, [
            ((), (), (), ()),
            ((), (0,), (1,), (other,)),
            ((0,), (), (0,), (first,)),
            ((0,), (0,), (0, 1), (first, other)),
            ((0,), (0,), (1, 0), (first, other)),
        ])


if __name__ == "__main__":
    unittest.main()
