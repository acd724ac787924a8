"""Promises 12.1 and 12.2: floors, on which plans are changed, back and forth."""

import unittest

from stillflow.errors import NoPlace, NoPlan, Nothing, NoWorld
from stillflow.floors import Floor
from tests.examples import (
    BARE, CIRCLE, CIRCLE_WALK, CROSSED, FULL, ODD_THINGS, ONE, ROUND, TALL, TWICE, UNEVEN, WORLDS, assert_refused,
    drawn_numbers, drawn_worlds, leaving_by_hand, plans_by_hand, pushed_by_hand, walk_by_hand,
)

FEW = (ONE, BARE, CROSSED, TALL, ROUND, TWICE, CIRCLE)


def state(floor):
    return (floor.plan(), floor.counts())


class ByHand:
    """A floor that keeps all of its plans, and how many of them lie behind the present one."""

    def __init__(self, world, plan):
        self.world, self.plans, self.words, self.now = world, [plan], [], 0

    def step(self, word, plan):
        self.plans = self.plans[:self.now + 1] + [plan]
        self.words = self.words[:self.now] + [word]
        self.now += 1

    def state(self):
        return (self.plans[self.now], (self.now, len(self.words) - self.now))

    def copy(self):
        other = ByHand(self.world, None)
        other.plans, other.words, other.now = list(self.plans), list(self.words), self.now
        return other


class Steps(unittest.TestCase):
    """12.1"""

    def behind(self, floor, plan, counts):
        self.assertEqual(state(floor), (plan, counts))

    def test_at_first(self):
        self.behind(Floor(CROSSED, (0, 2, 0, 0)), (0, 2, 0, 0), (0, 0))
        self.behind(Floor(BARE, ()), (), (0, 0))

    def test_push(self):
        floor = Floor(CROSSED, (0, 2, 0, 0))
        self.assertEqual(floor.push(0), [0, 2, 3])
        self.behind(floor, (1, 1, 0, 0), (1, 0))
        self.assertEqual(floor.push(2), [2, 3])
        self.behind(floor, (1, 1, 1, 0), (2, 0))
        self.assertEqual(floor.push(3), [])
        self.behind(floor, (1, 1, 1, 1), (3, 0))

    def test_lay(self):
        floor = Floor(CROSSED, (2, 0, 0, 2))
        self.assertEqual(floor.lay((0, 2, 0, 0)), [0, 2])
        self.behind(floor, (0, 2, 0, 0), (1, 0))
        self.assertEqual(floor.lay((0, 2, 2, 0)), [])
        self.behind(floor, (0, 2, 2, 0), (2, 0))

    def test_lay_of_the_same_plan(self):
        floor = Floor(CROSSED, (0, 2, 0, 0))
        self.assertEqual(floor.lay((0, 2, 0, 0)), [0, 2])
        self.behind(floor, (0, 2, 0, 0), (1, 0))
        self.assertEqual(floor.back(), "lay")
        self.behind(floor, (0, 2, 0, 0), (0, 1))
        self.assertEqual(floor.forth(), "lay")
        self.behind(floor, (0, 2, 0, 0), (1, 0))

    def test_settle(self):
        floor = Floor(CROSSED, (0, 0, 0, 0))
        self.assertEqual(floor.settle(), 6)
        self.behind(floor, (0, 2, 2, 0), (1, 0))
        floor = Floor(ONE, (0,))
        self.assertEqual(floor.settle(), 2)
        self.behind(floor, (2,), (1, 0))

    def test_settle_of_a_plan_at_rest(self):
        floor = Floor(CROSSED, (2, 0, 0, 2))
        self.assertEqual(floor.settle(), 0)
        self.behind(floor, (2, 0, 0, 2), (1, 0))
        self.assertEqual(floor.settle(), 0)
        self.behind(floor, (2, 0, 0, 2), (2, 0))
        self.assertEqual(floor.back(), "settle")
        self.behind(floor, (2, 0, 0, 2), (1, 1))

    def test_settle_of_a_walk_that_goes_round(self):
        floor = Floor(CIRCLE, CIRCLE_WALK[0])
        self.assertEqual(floor.settle(), 5)
        self.behind(floor, CIRCLE_WALK[5], (1, 0))
        self.assertEqual(floor.settle(), 5)
        self.behind(floor, CIRCLE_WALK[4], (2, 0))

    def test_by_hand_from_each_plan(self):
        for world in FEW + tuple(drawn_worlds(20)):
            for plan in plans_by_hand(world):
                for way in leaving_by_hand(world, plan):
                    floor = Floor(world, plan)
                    expected = pushed_by_hand(world, plan, way)
                    self.assertEqual(floor.push(way), leaving_by_hand(world, expected))
                    self.behind(floor, expected, (1, 0))
                floor = Floor(world, (0,) * len(plan))
                self.assertEqual(floor.lay(plan), leaving_by_hand(world, plan))
                plans = walk_by_hand(world, plan)
                self.assertEqual(floor.settle(), len(plans) - 1)
                self.behind(floor, plans[-1], (2, 0))


class Refused(unittest.TestCase):
    """12.1"""

    def moved(self):
        """A floor with two steps to take back, and one to do again."""
        floor = Floor(CROSSED, (0, 0, 0, 0))
        floor.push(0)
        floor.lay((0, 1, 0, 0))
        floor.push(3)
        floor.back()
        return floor

    def test_no_place(self):
        floor = self.moved()
        self.assertEqual(state(floor), ((0, 1, 0, 0), (2, 1)))
        for thing in ODD_THINGS + ((), 4, -2, "push", True, False):
            assert_refused(self, NoPlace, floor.push, thing)
            self.assertEqual(state(floor), ((0, 1, 0, 0), (2, 1)))
        self.assertEqual(floor.forth(), "push")
        self.assertEqual(floor.back(), "push")
        self.assertEqual(floor.back(), "lay")
        self.assertEqual(state(floor), ((1, 0, 0, 0), (1, 2)))

    def test_ways_that_are_not_among_leaving(self):
        floor = Floor(CROSSED, (2, 0, 0, 2))
        for way in (0, 1, 2, 3):
            assert_refused(self, NoPlace, floor.push, way)
            self.assertEqual(state(floor), ((2, 0, 0, 2), (0, 0)))
        assert_refused(self, NoPlace, Floor(BARE, ()).push, 0)

    def test_no_plan(self):
        floor = self.moved()
        for thing in ODD_THINGS + ((), 0, [0, 0, 0, 0], (0, 0, 0), (3, 0, 0, 0), (2, 1, 0, 0), (0, 0, 0, False)):
            assert_refused(self, NoPlan, floor.lay, thing)
            self.assertEqual(state(floor), ((0, 1, 0, 0), (2, 1)))
        self.assertEqual(floor.forth(), "push")

    def test_no_world_ahead_of_no_plan(self):
        for thing in ODD_THINGS + ((), 0):
            assert_refused(self, NoWorld, Floor, thing, (0, 0, 0, 0))
            assert_refused(self, NoWorld, Floor, thing, None)
            assert_refused(self, NoPlan, Floor, CROSSED, thing)

    def test_nothing(self):
        for world in WORLDS:
            nothing = (0,) * len(world[2])
            floor = Floor(world, nothing)
            for _ in range(2):
                assert_refused(self, Nothing, floor.back)
                assert_refused(self, Nothing, floor.forth)
                self.assertEqual(state(floor), (nothing, (0, 0)))


class BackAndForth(unittest.TestCase):
    """12.2"""

    def test_step_by_step(self):
        floor = Floor(CROSSED, (0, 0, 0, 0))
        floor.push(0)
        floor.lay((0, 2, 0, 0))
        floor.settle()
        rows = [("settle", (0, 2, 0, 0)), ("lay", (1, 0, 0, 0)), ("push", (0, 0, 0, 0))]
        self.assertEqual(state(floor), ((0, 2, 2, 0), (3, 0)))
        for number, (word, plan) in enumerate(rows):
            self.assertEqual(floor.back(), word)
            self.assertEqual(state(floor), (plan, (2 - number, number + 1)))
        assert_refused(self, Nothing, floor.back)
        self.assertEqual(state(floor), ((0, 0, 0, 0), (0, 3)))
        rows = [("push", (1, 0, 0, 0)), ("lay", (0, 2, 0, 0)), ("settle", (0, 2, 2, 0))]
        for number, (word, plan) in enumerate(rows):
            self.assertEqual(floor.forth(), word)
            self.assertEqual(state(floor), (plan, (number + 1, 2 - number)))
        assert_refused(self, Nothing, floor.forth)
        self.assertEqual(state(floor), ((0, 2, 2, 0), (3, 0)))

    def test_behind_another_step_nothing_can_be_done_again(self):
        for step, plan in (
            (lambda floor: floor.push(1), (0, 1, 0, 0)),
            (lambda floor: floor.lay((1, 1, 1, 1)), (1, 1, 1, 1)),
            (lambda floor: floor.settle(), (0, 2, 2, 0)),
            # As much as the step that was taken back, and as much as no change at all.
            (lambda floor: floor.push(0), (1, 0, 0, 0)),
            (lambda floor: floor.lay((0, 0, 0, 0)), (0, 0, 0, 0)),
        ):
            floor = Floor(CROSSED, (0, 0, 0, 0))
            floor.push(0)
            floor.push(3)
            floor.back()
            floor.back()
            self.assertEqual(floor.counts(), (0, 2))
            step(floor)
            self.assertEqual(state(floor), (plan, (1, 0)))
            assert_refused(self, Nothing, floor.forth)
            floor.back()
            self.assertEqual(state(floor), ((0, 0, 0, 0), (0, 1)))
            floor.forth()
            self.assertEqual(state(floor), (plan, (1, 0)))

    def test_a_refused_step_leaves_what_can_be_done_again(self):
        floor = Floor(CROSSED, (0, 0, 0, 0))
        floor.push(0)
        floor.back()
        assert_refused(self, NoPlace, floor.push, 4)
        assert_refused(self, NoPlan, floor.lay, None)
        assert_refused(self, Nothing, floor.back)
        self.assertEqual(floor.forth(), "push")
        self.assertEqual(state(floor), ((1, 0, 0, 0), (1, 0)))

    def test_drawn_steps_by_hand(self):
        draw = drawn_numbers(12)
        for world in FEW + tuple(drawn_worlds(60)):
            plans = list(plans_by_hand(world))
            begin = plans[next(draw) % len(plans)]
            pairs = [(Floor(world, begin), ByHand(world, begin))]
            for _ in range(40):
                floor, known = pairs[next(draw) % len(pairs)]
                if next(draw) % 12 == 0 and len(pairs) < 4:
                    pairs.append((floor.twin(), known.copy()))
                self.one_step(draw, floor, known, plans)
                for each, by_hand in pairs:
                    self.assertEqual(state(each), by_hand.state())

    def one_step(self, draw, floor, known, plans):
        kind = next(draw) % 7
        world, plan = known.world, known.state()[0]
        ways = leaving_by_hand(world, plan)
        if kind < 2 and ways:
            way = ways[next(draw) % len(ways)]
            known.step("push", pushed_by_hand(world, plan, way))
            self.assertEqual(floor.push(way), leaving_by_hand(world, known.state()[0]))
        elif kind == 2:
            known.step("lay", plans[next(draw) % len(plans)])
            self.assertEqual(floor.lay(known.state()[0]), leaving_by_hand(world, known.state()[0]))
        elif kind == 3:
            walked = walk_by_hand(world, plan)
            known.step("settle", walked[-1])
            self.assertEqual(floor.settle(), len(walked) - 1)
        elif kind < 6:
            if known.now == 0:
                assert_refused(self, Nothing, floor.back)
            else:
                known.now -= 1
                self.assertEqual(floor.back(), known.words[known.now])
        elif known.now == len(known.words):
            assert_refused(self, Nothing, floor.forth)
        else:
            self.assertEqual(floor.forth(), known.words[known.now])
            known.now += 1


class Twins(unittest.TestCase):
    """12.2"""

    def moved(self):
        floor = Floor(CROSSED, (0, 0, 0, 0))
        floor.push(0)
        floor.lay((0, 2, 0, 0))
        floor.settle()
        floor.back()
        return floor

    def test_as_the_floor(self):
        floor = self.moved()
        twin = floor.twin()
        self.assertIsInstance(twin, Floor)
        self.assertEqual(state(twin), ((0, 2, 0, 0), (2, 1)))
        self.assertEqual(twin.forth(), "settle")
        self.assertEqual(state(twin), ((0, 2, 2, 0), (3, 0)))
        self.assertEqual([twin.back(), twin.back(), twin.back()], ["settle", "lay", "push"])
        self.assertEqual(state(twin), ((0, 0, 0, 0), (0, 3)))
        self.assertEqual(state(floor), ((0, 2, 0, 0), (2, 1)))

    def test_what_is_done_at_the_twin_leaves_the_floor(self):
        for step in (
            lambda floor: floor.push(0), lambda floor: floor.lay((1, 1, 1, 1)), lambda floor: floor.settle(),
            lambda floor: floor.back(), lambda floor: floor.forth(),
        ):
            floor = self.moved()
            twin = floor.twin()
            step(twin)
            self.assertEqual(state(floor), ((0, 2, 0, 0), (2, 1)))
            self.assertNotEqual(state(twin), state(floor))
            self.assertEqual([floor.forth(), floor.back(), floor.back()], ["settle", "settle", "lay"])

    def test_what_is_done_at_the_floor_leaves_the_twin(self):
        for step in (
            lambda floor: floor.push(0), lambda floor: floor.lay((1, 1, 1, 1)), lambda floor: floor.settle(),
            lambda floor: floor.back(), lambda floor: floor.forth(),
        ):
            floor = self.moved()
            twin = floor.twin()
            step(floor)
            self.assertEqual(state(twin), ((0, 2, 0, 0), (2, 1)))
            self.assertEqual([twin.forth(), twin.back(), twin.back()], ["settle", "settle", "lay"])

    def test_twins_of_twins(self):
        floor = self.moved()
        first = floor.twin()
        first.back()
        second = first.twin()
        second.back()
        third = second.twin()
        first.push(0)
        self.assertEqual(state(floor), ((0, 2, 0, 0), (2, 1)))
        self.assertEqual(state(first), ((2, 0, 0, 0), (2, 0)))
        self.assertEqual(state(second), ((0, 0, 0, 0), (0, 3)))
        self.assertEqual(state(third), ((0, 0, 0, 0), (0, 3)))
        self.assertEqual([third.forth(), third.forth(), third.forth()], ["push", "lay", "settle"])
        self.assertEqual(state(second), ((0, 0, 0, 0), (0, 3)))

    def test_of_a_new_floor(self):
        twin = Floor(UNEVEN, (0, 0, 0, 0, 0)).twin()
        self.assertEqual(state(twin), ((0, 0, 0, 0, 0), (0, 0)))
        assert_refused(self, Nothing, twin.back)
        assert_refused(self, Nothing, twin.forth)


class Apart(unittest.TestCase):
    """0.3"""

    def test_told_lists_are_new_and_change_no_floor(self):
        floor = Floor(CROSSED, (0, 0, 0, 0))
        told = [floor.push(0), floor.lay((0, 2, 0, 0)), floor.lay((0, 2, 2, 0)), floor.lay((0, 2, 0, 0))]
        self.assertEqual([type(ways) for ways in told], [list] * 4)
        for ways in told:
            ways.append("more")
            ways.reverse()
        self.assertEqual(state(floor), ((0, 2, 0, 0), (4, 0)))
        self.assertEqual(floor.lay((0, 2, 2, 0)), [])
        self.assertEqual(floor.lay((0, 2, 0, 0)), [0, 2])

    def test_asked_again_all_tell_the_same(self):
        floor = Floor(FULL, (0,) * 16)
        floor.push(3)
        for call in (floor.plan, floor.counts):
            self.assertEqual(call(), call())
        self.assertIs(type(floor.counts()), tuple)


if __name__ == "__main__":
    unittest.main()
