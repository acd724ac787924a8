"""Promise 0.2, (e) and (f): what holds of papers and texts, at all worlds."""

import unittest
from itertools import product

from stillflow.finding import givers_best
from stillflow.listing import all_plans, all_rests
from stillflow.papers import caps_of, holds, is_within, paper, shows
from stillflow.texts import plan_text, read_plan, read_world, world_text
from tests.examples import (
    AT_ONCE, BARE, BLOCKS, CROSSED, FULL, LEFT, ONE, RIVALS, ROUND, TALL, TWICE, UNEVEN, best_by_hand, drawn_numbers,
    drawn_worlds, rests_by_hand, small_worlds,
)

FEW = [ONE, BARE, CROSSED, UNEVEN, TALL, ROUND, TWICE, AT_ONCE, LEFT, BLOCKS]
MANY = FEW + list(small_worlds())[::11] + drawn_worlds(300)


def rows_that_follow(world, rows):
    every = product(range(len(world[2])), range(10))
    return [row for row in every if holds(world, rows + [row])]


def all_papers(world):
    """Papers that hold, one for each tuple of caps that any can lead to, each with the rows that follow it."""
    found = {}
    waiting = [[]]
    while waiting:
        rows = waiting.pop()
        if caps_of(world, rows) not in found:
            further = rows_that_follow(world, rows)
            found[caps_of(world, rows)] = (rows, further)
            waiting.extend(rows + [row] for row in further)
    return list(found.values())


class Papers(unittest.TestCase):
    """(e)"""

    def test_each_paper_that_holds_bounds_all_plans_at_rest(self):
        for world in MANY:
            rests = rests_by_hand(world)
            for rows, _ in all_papers(world):
                for plan in rests:
                    self.assertIs(is_within(world, plan, caps_of(world, rows)), True, (world, rows))

    def test_gone_on_with_till_no_row_follows_each_shows_the_best_plan(self):
        ended = 0
        for world in MANY:
            best, = best_by_hand(world, 0)
            for rows, further in all_papers(world):
                self.assertIs(shows(world, best, rows), further == [], (world, rows))
                ended += further == [] and len(rows) > 1
        self.assertGreater(ended, 20)

    def test_no_paper_shows_another_plan(self):
        for world in FEW + drawn_worlds(60):
            best = givers_best(world)
            papers = all_papers(world)
            for plan in all_plans(world):
                if plan != best:
                    self.assertNotIn(True, [shows(world, plan, rows) for rows, _ in papers], (world, plan))

    def test_in_whatever_order_at_great_worlds(self):
        draw = drawn_numbers(7)
        for world in (FULL, RIVALS):
            for _ in range(3):
                rows = []
                further = rows_that_follow(world, rows)
                while further:
                    rows.append(further[next(draw) % len(further)])
                    further = rows_that_follow(world, rows)
                self.assertIs(shows(world, givers_best(world), rows), True)

    def test_the_own_paper_is_among_them(self):
        for world in MANY:
            self.assertIs(shows(world, givers_best(world), paper(world)), True)
            self.assertEqual(rows_that_follow(world, paper(world)), [])


class Texts(unittest.TestCase):
    """(f)"""

    def test_worlds_read_back(self):
        for world in MANY + [FULL, RIVALS]:
            self.assertEqual(read_world(world_text(world)), world)

    def test_unlike_worlds_have_unlike_texts(self):
        every = set(small_worlds()) | set(MANY) | {FULL, RIVALS}
        self.assertEqual(len({world_text(world) for world in every}), len(every))

    def test_plans_read_back(self):
        for world in MANY:
            for plan in all_rests(world):
                self.assertEqual(read_plan(world, plan_text(world, plan)), plan)

    def test_unlike_plans_have_unlike_texts(self):
        for world in FEW + drawn_worlds(60):
            plans = all_plans(world)
            self.assertEqual([read_plan(world, plan_text(world, plan)) for plan in plans], plans)
            self.assertEqual(len({plan_text(world, plan) for plan in plans}), len(plans))


if __name__ == "__main__":
    unittest.main()
