"""Promise 0.2, (g), (h) and (i): what holds of costs, walks, floors and rows of plans, at all worlds."""

import unittest

from stillflow.costs import cost, costs, fairest
from stillflow.finding import givers_best, takers_best
from stillflow.floors import Floor
from stillflow.flows import leaving, rests
from stillflow.listing import all_plans, all_rests
from stillflow.walks import comes_to_rest, pushed, walk
from stillflow.walktexts import read_walk, walk_text
from stillflow.worlds import turned, turned_plan
from tests.examples import (
    AT_ONCE, BARE, BLOCKS, CIRCLE, CROSSED, FULL, LEFT, ONE, RIVALS, ROUND, TALL, TWICE, UNEVEN, drawn_numbers,
    drawn_worlds, great_worlds, small_worlds,
)

FEW = [ONE, BARE, CROSSED, UNEVEN, TALL, ROUND, TWICE, AT_ONCE, CIRCLE, LEFT, BLOCKS]
MANY = FEW + list(small_worlds())[::11] + drawn_worlds(300)
GREAT = [FULL, RIVALS] + list(great_worlds(40))


def some_plans(world):
    plans = all_plans(world)
    return plans[::1 + len(plans) // 12]


class Costs(unittest.TestCase):
    """(g)"""

    def test_no_plan_at_rest_costs_a_side_less_than_its_best(self):
        for world in MANY:
            for plan in all_rests(world):
                self.assertLessEqual(costs(world, givers_best(world))[0], costs(world, plan)[0], repr(world))
                self.assertLessEqual(costs(world, takers_best(world))[1], costs(world, plan)[1], repr(world))

    def test_nor_any_place_of_it(self):
        for world in MANY:
            for plan in all_rests(world):
                for side, best in ((0, givers_best(world)), (1, takers_best(world))):
                    for place in range(len(world[side])):
                        self.assertLessEqual(cost(world, side, place, best), cost(world, side, place, plan))

    def test_the_best_ones_of_great_worlds(self):
        for world in GREAT:
            of_givers, of_takers = costs(world, givers_best(world)), costs(world, takers_best(world))
            self.assertLessEqual(of_givers[0], of_takers[0])
            self.assertLessEqual(of_takers[1], of_givers[1])

    def test_none_costs_less_together_than_the_fairest(self):
        for world in MANY:
            found = all_rests(world)
            told = fairest(world)
            self.assertIn(told, found)
            for plan in found:
                self.assertLessEqual(sum(costs(world, told)), sum(costs(world, plan)), repr(world))

    def test_turned(self):
        for world in MANY:
            for plan in some_plans(world):
                back = costs(turned(world), turned_plan(world, plan))
                self.assertEqual(back, costs(world, plan)[::-1])


class Walks(unittest.TestCase):
    """(h)"""

    def checked(self, world, plan):
        plans = walk(world, plan)
        self.assertEqual(plans[0], plan)
        self.assertEqual(len(set(plans)), len(plans))
        for ahead, behind in zip(plans, plans[1:]):
            self.assertEqual(pushed(world, ahead, leaving(world, ahead)[0]), behind, (world, plan))
        ways = leaving(world, plans[-1])
        if ways:
            self.assertIn(pushed(world, plans[-1], ways[0]), plans, (world, plan))
        self.assertIs(comes_to_rest(world, plan), ways == [])
        self.assertIs(rests(world, plans[-1]), ways == [])

    def test_from_some_plans(self):
        for world in MANY:
            for plan in some_plans(world):
                self.checked(world, plan)

    def test_at_great_worlds(self):
        for world in GREAT:
            self.checked(world, (0,) * len(world[2]))

    def test_each_end_of_a_pushed_way_has_it_better(self):
        # The other ends of ways that are given up may well have it worse.
        for world in MANY:
            for plan in some_plans(world):
                for way in leaving(world, plan):
                    after = pushed(world, plan, way)
                    self.assertEqual(after[way], plan[way] + 1)
                    for side in (0, 1):
                        place = world[2][way][side]
                        self.assertLess(cost(world, side, place, after), cost(world, side, place, plan))


class Rows(unittest.TestCase):
    """(i)"""

    def test_floors_go_back_and_forth(self):
        draw = drawn_numbers(3)
        for world in MANY:
            plans = some_plans(world)
            floor = Floor(world, plans[0])
            stages = [plans[0]]
            words = []
            for _ in range(6):
                words.append(("push", "lay", "settle")[next(draw) % 3 if leaving(world, stages[-1]) else 1])
                if words[-1] == "push":
                    floor.push(leaving(world, stages[-1])[-1])
                elif words[-1] == "lay":
                    floor.lay(plans[next(draw) % len(plans)])
                else:
                    floor.settle()
                stages.append(floor.plan())
            for number in reversed(range(6)):
                self.assertEqual((floor.back(), floor.plan()), (words[number], stages[number]))
            for number in range(6):
                self.assertEqual((floor.forth(), floor.plan()), (words[number], stages[number + 1]))

    def test_rows_of_plans_read_back(self):
        for world in MANY:
            plans = some_plans(world)
            for rows in ([], plans, plans[::-1] + plans, walk(world, plans[0])):
                self.assertEqual(read_walk(world, walk_text(world, rows)), rows)

    def test_rows_of_plans_of_great_worlds_read_back(self):
        for world in GREAT:
            rows = walk(world, (0,) * len(world[2]))
            self.assertEqual(read_walk(world, walk_text(world, rows)), rows)

    def test_unlike_rows_have_unlike_texts(self):
        for world in FEW:
            plans = some_plans(world)
            rows = [[]] + [[plan] for plan in plans] + [[plan, other] for plan in plans for other in plans]
            self.assertEqual(len({walk_text(world, each) for each in rows}), len(rows))


if __name__ == "__main__":
    unittest.main()
