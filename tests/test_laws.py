"""Promise 0.2, (a) to (d): what holds of all worlds."""

import unittest
from itertools import product

from stillflow.changes import with_amount, without_way
from stillflow.comparing import all_like, likes, rank, together
from stillflow.finding import both_ends, givers_best, takers_best
from stillflow.flows import choice, rests, sent, taken
from stillflow.listing import all_plans, all_rests, always, is_single, short, totals
from stillflow.worlds import turned, turned_plan
from tests.examples import (
    BARE, BLOCKS, CROSSED, FULL, LEFT, ONE, RIVALS, ROUND, TALL, TWICE, UNEVEN, drawn_worlds, great_worlds,
    small_worlds,
)

FEW = [ONE, BARE, CROSSED, UNEVEN, TALL, ROUND, TWICE, LEFT, BLOCKS]
MANY = FEW + list(small_worlds())[::3] + drawn_worlds(600)
GREAT = [FULL, RIVALS] + list(great_worlds(40))


def ranks(world, plan):
    """What each place of both sides has on its ways."""
    return {(side, place): rank(world, side, place, plan) for side in (0, 1) for place in range(len(world[side]))}


def without_giver(world, giver):
    """The world with a giver less: all ways of the giver are gone, so that it can send nothing."""
    for way in reversed(range(len(world[2]))):
        if world[2][way][0] == giver:
            world = without_way(world, way)
    return world


class Best(unittest.TestCase):
    """(a)"""

    def test_there_is_a_plan_at_rest(self):
        for world in MANY:
            self.assertNotEqual(all_rests(world), [], repr(world))

    def test_the_best_ones_are_at_rest(self):
        for world in MANY + GREAT:
            self.assertIs(rests(world, givers_best(world)), True, repr(world))
            self.assertIs(rests(world, takers_best(world)), True, repr(world))

    def test_no_other_plan_at_rest_is_liked_more(self):
        for world in MANY:
            for plan in all_rests(world):
                self.assertIs(all_like(world, 0, givers_best(world), plan), True, repr(world))
                self.assertIs(all_like(world, 1, takers_best(world), plan), True, repr(world))
                for side, best in ((0, givers_best(world)), (1, takers_best(world))):
                    for place in range(len(world[side])):
                        self.assertIs(likes(world, side, place, best, plan), True, repr(world))

    def test_each_side_likes_its_own_best_no_less(self):
        for world in GREAT:
            self.assertIs(all_like(world, 0, givers_best(world), takers_best(world)), True, repr(world))
            self.assertIs(all_like(world, 1, takers_best(world), givers_best(world)), True, repr(world))


class Chosen(unittest.TestCase):
    """(b)"""

    def test_what_a_side_chooses_of_two_is_at_rest(self):
        for world in MANY:
            found = all_rests(world)
            for one, other in product(found, repeat=2):
                for side in (0, 1):
                    self.assertIn(together(world, side, one, other), found, repr(world))

    def test_what_a_side_chooses_of_two_all_of_it_like(self):
        for world in MANY:
            for one, other in product(all_rests(world), repeat=2):
                for side in (0, 1):
                    chosen = together(world, side, one, other)
                    self.assertIs(all_like(world, side, chosen, one), True, repr(world))
                    self.assertIs(all_like(world, side, chosen, other), True, repr(world))
                    self.assertIs(all_like(world, 1 - side, one, chosen), True, repr(world))
                    self.assertIs(all_like(world, 1 - side, other, chosen), True, repr(world))

    def test_what_one_side_likes_more_the_other_likes_less(self):
        for world in MANY:
            for one, other in product(all_rests(world), repeat=2):
                self.assertIs(all_like(world, 0, one, other), all_like(world, 1, other, one), repr(world))

    def test_two_of_which_neither_is_liked_more(self):
        found = all_rests(BLOCKS)
        apart = [
            (one, other) for one, other in product(found, repeat=2)
            if not all_like(BLOCKS, 0, one, other) and not all_like(BLOCKS, 0, other, one)
        ]
        self.assertEqual(len(found), 6)
        self.assertEqual(len(apart), 6)
        for one, other in apart:
            self.assertNotIn(together(BLOCKS, 0, one, other), (one, other))


class AsMuch(unittest.TestCase):
    """(c)"""

    def same_of(self, world, one, other):
        self.assertEqual([sent(world, one, place) for place in range(len(world[0]))], list(totals(world)[0]))
        self.assertEqual([taken(world, one, place) for place in range(len(world[1]))], list(totals(world)[1]))
        for side in (0, 1):
            for place in short(world, side):
                self.assertEqual(rank(world, side, place, one), rank(world, side, place, other), repr(world))

    def test_all_plans_at_rest(self):
        for world in MANY:
            for one, other in product(all_rests(world), repeat=2):
                self.same_of(world, one, other)

    def test_the_best_ones_of_great_worlds(self):
        for world in GREAT:
            self.same_of(world, givers_best(world), takers_best(world))
            self.same_of(world, takers_best(world), givers_best(world))

    def test_some_left_where_several_are_at_rest(self):
        found = [world for world in MANY if not is_single(world) and (short(world, 0) or short(world, 1))]
        self.assertIn(LEFT, found)
        self.assertGreater(len(found), 4)


class More(unittest.TestCase):
    """(d)"""

    def no_worse(self, before, after, givers):
        """The plans are of two worlds with the same ways; the givers are the same in both."""
        changed, plan = after
        for giver in givers:
            offers = tuple(max(pair) for pair in zip(plan, before))
            chosen = choice(changed, 0, giver, offers)
            own = [way for way, (place, _, _) in enumerate(changed[2]) if place == giver]
            self.assertEqual([chosen[way] for way in own], [plan[way] for way in own], repr(changed))

    def test_with_less_of_a_giver_no_other_is_worse_off(self):
        for world in MANY + GREAT:
            for giver, (amount, _) in enumerate(world[0]):
                for less in range(amount):
                    changed = with_amount(world, 0, giver, less)
                    others = [place for place in range(len(world[0])) if place != giver]
                    self.no_worse(givers_best(world), (changed, givers_best(changed)), others)

    def test_a_giver_with_nothing_left_is_as_good_as_gone(self):
        for world in MANY + GREAT:
            for giver in range(len(world[0])):
                gone = givers_best(without_giver(world, giver))
                nothing = givers_best(with_amount(world, 0, giver, 0))
                kept = [many for way, many in zip(world[2], nothing) if way[0] != giver]
                self.assertEqual(list(gone), kept, repr(world))

    def test_with_more_room_no_giver_is_worse_off(self):
        for world in MANY + GREAT:
            for taker, (room, _) in enumerate(world[1]):
                for more in range(room + 1, 10, 2):
                    changed = with_amount(world, 1, taker, more)
                    self.no_worse(givers_best(world), (changed, givers_best(changed)), range(len(world[0])))

    def test_some_are_better_off(self):
        self.assertEqual(ranks(TWICE, givers_best(TWICE))[0, 0], (0,))
        less = with_amount(TWICE, 0, 1, 0)
        self.assertEqual(ranks(less, givers_best(less))[0, 0], (2,))
        room = with_amount(TWICE, 1, 0, 9)
        self.assertEqual(ranks(room, givers_best(room))[0, 0], (3,))


class Turned(unittest.TestCase):
    """(d)"""

    def test_the_best_plans(self):
        for world in MANY + GREAT:
            other = turned(world)
            self.assertEqual(givers_best(other), turned_plan(world, takers_best(world)), repr(world))
            self.assertEqual(takers_best(other), turned_plan(world, givers_best(world)), repr(world))

    def test_all_plans(self):
        for world in MANY[::3]:
            for listed in (all_plans, all_rests):
                back = sorted(turned_plan(world, plan) for plan in listed(world))
                self.assertEqual(listed(turned(world)), back, repr(world))

    def test_what_is_alike(self):
        for world in MANY + GREAT:
            other = turned(world)
            self.assertIs(is_single(other), is_single(world))
            self.assertEqual(totals(other), totals(world)[::-1])
            self.assertEqual((short(other, 0), short(other, 1)), (short(world, 1), short(world, 0)))

    def test_always(self):
        for world in MANY[::3]:
            other = turned(world)
            between = {world[2][way][:2]: many for way, many in always(world)}
            self.assertEqual({other[2][way][1::-1]: many for way, many in always(other)}, between)

    def test_compared(self):
        for world in MANY[::3]:
            other = turned(world)
            plans = all_plans(world)
            for one, two in product(plans[::max(1, len(plans) // 3)], all_rests(world)):
                back = (turned_plan(world, one), turned_plan(world, two))
                for side in (0, 1):
                    self.assertIs(all_like(other, 1 - side, *back), all_like(world, side, one, two))
                    chosen = both_ends(world, side, tuple(max(pair) for pair in zip(one, two)))
                    self.assertEqual(together(world, side, one, two), chosen)
                self.assertEqual(ranks(world, one), {
                    (1 - side, place): numbers for (side, place), numbers in ranks(other, back[0]).items()
                })


if __name__ == "__main__":
    unittest.main()
