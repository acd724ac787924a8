"""Promise 8.1: desks, over worlds that change."""

import unittest
from itertools import product

from stillflow.changes import with_amount, with_limit, without_way
from stillflow.desks import Desk
from stillflow.errors import NoPlace, Nothing, NoWorld
from tests.examples import (
    BARE, CROSSED, FULL, LEFT, ODD_THINGS, ONE, TALL, TWICE, UNEVEN, WORLDS, assert_refused, best_by_hand,
    drawn_numbers, drawn_worlds,
)

FEW = (ONE, BARE, CROSSED, TALL, TWICE, LEFT)


def flows_by_hand(world):
    """How much goes between each giver and each taker that may ever be, in the givers' best plan."""
    best, = best_by_hand(world, 0)
    found = dict.fromkeys(product(range(4), repeat=2), 0)
    for way, many in zip(world[2], best):
        found[way[:2]] = many
    return found


def otherwise_by_hand(ahead, behind):
    before, after = flows_by_hand(ahead), flows_by_hand(behind)
    return [pair + (after[pair],) for pair in sorted(after) if after[pair] != before[pair]]


def drawn_change(draw, world):
    """A change that a world can take: a desk's method, what it takes, and the world behind it."""
    kind = next(draw) % 4
    if kind == 0 and world[2]:
        way = next(draw) % len(world[2])
        return "close", (way,), without_way(world, way)
    if kind == 1 and world[2]:
        way, limit = next(draw) % len(world[2]), 1 + next(draw) % 4
        return "set_limit", (way, limit), with_limit(world, way, limit)
    side = next(draw) % 2
    place, amount = next(draw) % len(world[side]), next(draw) % 5
    return "set_amount", (side, place, amount), with_amount(world, side, place, amount)


class Told(unittest.TestCase):
    def behind(self, desk, world, plan, many):
        self.assertEqual((desk.world(), desk.plan(), desk.many()), (world, plan, many))

    def test_at_first(self):
        self.behind(Desk(TWICE), TWICE, (0, 2, 0, 2), 0)
        self.behind(Desk(CROSSED), CROSSED, (2, 0, 0, 2), 0)
        self.behind(Desk(BARE), BARE, (), 0)

    def test_set_amount(self):
        desk = Desk(TWICE)
        self.assertEqual(desk.set_amount(1, 0, 9), [(0, 0, 3)])
        self.behind(desk, with_amount(TWICE, 1, 0, 9), (3, 2, 0, 2), 1)
        self.assertEqual(desk.set_amount(0, 2, 0), [(1, 0, 0), (1, 1, 2), (2, 1, 0)])
        self.assertEqual((desk.plan(), desk.many()), ((3, 0, 2, 0), 2))

    def test_set_limit(self):
        desk = Desk(CROSSED)
        self.assertEqual(desk.set_limit(0, 1), [(0, 0, 1), (0, 1, 1), (1, 0, 1), (1, 1, 1)])
        self.behind(desk, with_limit(CROSSED, 0, 1), (1, 1, 1, 1), 1)
        self.assertEqual(desk.set_limit(0, 9), [(0, 0, 2), (0, 1, 0), (1, 0, 0), (1, 1, 2)])
        self.behind(desk, with_limit(CROSSED, 0, 9), (2, 0, 0, 2), 2)

    def test_close_tells_the_pair_with_nothing(self):
        desk = Desk(CROSSED)
        self.assertEqual(desk.close(0), [(0, 0, 0), (0, 1, 2), (1, 0, 2), (1, 1, 0)])
        self.behind(desk, without_way(CROSSED, 0), (2, 2, 0), 1)
        # The way from giver 0 to taker 1 is number 0 now.
        self.assertEqual(desk.close(0), [(0, 1, 0), (1, 0, 0), (1, 1, 2)])
        self.behind(desk, without_way(without_way(CROSSED, 0), 0), (0, 2), 2)

    def test_close_of_a_way_with_nothing_on_it(self):
        desk = Desk(TWICE)
        self.assertEqual(desk.close(0), [])
        self.behind(desk, without_way(TWICE, 0), (2, 0, 2), 1)

    def test_close_to_the_last(self):
        desk = Desk(ONE)
        self.assertEqual(desk.close(0), [(0, 0, 0)])
        self.behind(desk, (((3, ()),), ((4, ()),), ()), (), 1)
        assert_refused(self, NoPlace, desk.close, 0)
        self.assertEqual(desk.undo(), [(0, 0, 2)])
        self.behind(desk, ONE, (2,), 0)

    def test_nothing_where_the_plan_stays(self):
        desk = Desk(ONE)
        self.assertEqual(desk.set_amount(0, 0, 9), [])
        self.assertEqual(desk.set_amount(1, 0, 2), [])
        self.assertEqual(desk.many(), 2)
        self.assertEqual(desk.undo(), [])
        self.assertEqual(desk.undo(), [])
        self.behind(desk, ONE, (2,), 0)

    def test_a_change_to_the_same_number_counts(self):
        desk = Desk(CROSSED)
        self.assertEqual(desk.set_amount(0, 1, 2), [])
        self.behind(desk, CROSSED, (2, 0, 0, 2), 1)
        self.assertEqual(desk.set_limit(3, 2), [])
        self.behind(desk, CROSSED, (2, 0, 0, 2), 2)
        self.assertEqual(desk.set_limit(0, 1), [(0, 0, 1), (0, 1, 1), (1, 0, 1), (1, 1, 1)])
        self.assertEqual(desk.undo(), [(0, 0, 2), (0, 1, 0), (1, 0, 0), (1, 1, 2)])
        self.behind(desk, CROSSED, (2, 0, 0, 2), 2)
        self.assertEqual(desk.undo(), [])
        self.assertEqual(desk.undo(), [])
        self.behind(desk, CROSSED, (2, 0, 0, 2), 0)
        assert_refused(self, Nothing, desk.undo)

    def test_each_single_change_by_hand(self):
        for world in FEW:
            for side in (0, 1):
                for place, amount in product(range(len(world[side])), range(10)):
                    changed = with_amount(world, side, place, amount)
                    self.assertEqual(Desk(world).set_amount(side, place, amount), otherwise_by_hand(world, changed))
            for way in range(len(world[2])):
                self.assertEqual(Desk(world).close(way), otherwise_by_hand(world, without_way(world, way)))
                for limit in range(1, 5):
                    changed = with_limit(world, way, limit)
                    self.assertEqual(Desk(world).set_limit(way, limit), otherwise_by_hand(world, changed))

    def test_rows_of_changes_and_back(self):
        draw = drawn_numbers(8)
        for world in FEW + tuple(drawn_worlds(60)):
            desk = Desk(world)
            stages = [world]
            for _ in range(6):
                name, handed, changed = drawn_change(draw, stages[-1])
                told = getattr(desk, name)(*handed)
                self.assertEqual(told, otherwise_by_hand(stages[-1], changed), (stages, name, handed))
                stages.append(changed)
                self.behind(desk, changed, best_by_hand(changed, 0)[0], len(stages) - 1)
            while len(stages) > 1:
                gone = stages.pop()
                self.assertEqual(desk.undo(), otherwise_by_hand(gone, stages[-1]), stages)
                self.behind(desk, stages[-1], best_by_hand(stages[-1], 0)[0], len(stages) - 1)
            assert_refused(self, Nothing, desk.undo)

    def test_changes_behind_an_undo(self):
        desk = Desk(TWICE)
        desk.set_amount(1, 0, 9)
        desk.undo()
        desk.close(1)
        changed = without_way(TWICE, 1)
        self.behind(desk, changed, (2, 0, 2), 1)
        desk.undo()
        self.behind(desk, TWICE, (0, 2, 0, 2), 0)


class Refused(unittest.TestCase):
    def desk_with_changes(self):
        desk = Desk(UNEVEN)
        desk.set_amount(0, 1, 1)
        desk.set_limit(0, 1)
        return desk

    def test_no_place(self):
        desk = self.desk_with_changes()
        ahead = (desk.world(), desk.plan(), desk.many())
        wrong = []
        for thing in ODD_THINGS + ((), 3, -2):
            wrong += [(desk.set_amount, (thing, 0, 1)), (desk.set_amount, (0, thing, 1))]
            wrong += [(desk.set_amount, (1, thing, 1))]
        for thing in ODD_THINGS + ((), 10, 11):
            wrong += [(desk.set_amount, (0, 0, thing)), (desk.set_amount, (1, 0, thing))]
            wrong += [(desk.set_limit, (0, thing)), (desk.set_limit, (thing, 1)), (desk.close, (thing,))]
        wrong += [(desk.set_limit, (0, 0)), (desk.set_limit, (5, 1)), (desk.close, (5,)), (desk.set_amount, (1, 2, 1))]
        wrong += [(desk.set_amount, (2, 0, 1))]
        for call, handed in wrong:
            assert_refused(self, NoPlace, call, *handed)
            self.assertEqual((desk.world(), desk.plan(), desk.many()), ahead)
        desk.undo()
        self.assertEqual(desk.world(), with_amount(UNEVEN, 0, 1, 1))
        desk.undo()
        self.assertEqual(desk.world(), UNEVEN)

    def test_nothing_to_take_back(self):
        for world in WORLDS:
            desk = Desk(world)
            for _ in range(2):
                assert_refused(self, Nothing, desk.undo)
                self.assertEqual((desk.world(), desk.many()), (world, 0))

    def test_no_world(self):
        for thing in ODD_THINGS + ((), 0):
            assert_refused(self, NoWorld, Desk, thing)


class Apart(unittest.TestCase):
    def test_told_lists_are_new_and_change_no_desk(self):
        desk = Desk(CROSSED)
        told = [desk.close(0), desk.undo(), desk.set_limit(0, 1), desk.set_amount(1, 0, 0), desk.undo()]
        ahead = (desk.world(), desk.plan(), desk.many())
        for rows in told:
            self.assertIs(type(rows), list)
            rows.append("more")
            rows.reverse()
        self.assertEqual((desk.world(), desk.plan(), desk.many()), ahead)
        self.assertEqual(desk.undo(), [(0, 0, 2), (0, 1, 0), (1, 0, 0), (1, 1, 2)])
        self.assertEqual(desk.set_amount(0, 0, 2), [])

    def test_asked_again_all_tell_the_same(self):
        desk = Desk(FULL)
        desk.close(3)
        for call in (desk.world, desk.plan, desk.many):
            self.assertEqual(call(), call())

    def test_two_desks_over_one_world(self):
        one, other = Desk(CROSSED), Desk(CROSSED)
        one.close(0)
        self.assertEqual((other.world(), other.many()), (CROSSED, 0))
        other.set_limit(1, 1)
        one.undo()
        self.assertEqual((one.world(), one.many()), (CROSSED, 0))
        self.assertEqual((other.world(), other.many()), (with_limit(CROSSED, 1, 1), 1))


if __name__ == "__main__":
    unittest.main()
