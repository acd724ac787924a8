"""Promise 7.1: papers, whether they hold, what they bound and what they show."""

import unittest
from itertools import permutations, product

from stillflow.errors import NoPlan, NoWorld
from stillflow.papers import caps_of, holds, is_row, is_within, paper, shows
from tests.examples import (
    AT_ONCE, BARE, BLOCKS, CROSSED, FULL, LEFT, ODD_THINGS, ONE, RIVALS, ROUND, TALL, TWICE, UNEVEN, WORLDS,
    assert_refused, best_by_hand, both_ends_by_hand, drawn_worlds, nested, plans_by_hand, rests_by_hand,
)

FEW = (ONE, BARE, CROSSED, TALL, ROUND, TWICE, AT_ONCE, LEFT, BLOCKS)

# Things that are no row of TWICE, which has four ways.
NO_ROWS = ODD_THINGS + (
    (), 0, 2, [0, 2], (0,), (0, 2, 0), (0, 2, None), (4, 0), (-1, 0), (0, -1), (0, 10), (0, 10 ** 30), (10 ** 30, 0),
    (True, 0), (False, 2), (2, False), (0, True), (None, 0), (0, None), ("0", 2), (0, "2"), ("0", "2"), "02",
    ((0,), 2), (0, (2,)), ([0], 2), ((0, 2),), [(0, 2)], (0, [2]),
)

# Things that are no list of rows of TWICE.
NO_PAPERS = tuple(thing for thing in ODD_THINGS if thing != []) + (
    0, (), ((0, 2),), ((0, 2), (2, 0), (0, 0)), (0, 2), "[(0, 2)]", {}, {0: 2}, {(0, 2): True}, ([(0, 2)],),
    [[(0, 2)]], [[0, 2]], [0, 2], [(0, 2), None], [None, (0, 2)], [(0, 2), True], ["", (0, 2)], [(0, 2), []], [()],
    nested(list, 10), nested(tuple, 10),
)


def follows_by_hand(world, caps, row):
    """The words of promise 7.1, by themselves, of one row."""
    way, cap = row
    given = both_ends_by_hand(world, 0, caps)
    kept = both_ends_by_hand(world, 1, given)
    return given[way] > cap and not kept[way] > cap


def caps_by_hand(world, rows):
    caps = [way[2] for way in world[2]]
    for way, cap in rows:
        if not follows_by_hand(world, caps, (way, cap)):
            return None
        caps[way] = cap
    return tuple(caps)


def all_rows(world, most=9):
    return list(product(range(len(world[2])), range(most + 1)))


class Paper(unittest.TestCase):
    def test_no_step(self):
        for world in (ONE, BARE, CROSSED, UNEVEN, FULL, ROUND, LEFT, BLOCKS):
            self.assertEqual(paper(world), [])

    def test_one_step(self):
        self.assertEqual(paper(TALL), [(0, 6)])

    def test_several_steps(self):
        self.assertEqual(paper(TWICE), [(0, 2), (2, 0), (0, 0)])
        self.assertEqual(paper(AT_ONCE), [(2, 0), (3, 0)])
        self.assertEqual(paper(RIVALS), [(0, 0), (4, 0), (1, 0), (8, 0), (5, 0), (2, 0)])

    def test_no_world(self):
        for thing in ODD_THINGS + ((), 0):
            assert_refused(self, NoWorld, paper, thing)


class Rows(unittest.TestCase):
    def test_each_number_of_a_way_and_each_cap(self):
        for world in WORLDS:
            for way, cap in product(range(-2, 18), range(-2, 13)):
                expected = 0 <= way < len(world[2]) and 0 <= cap <= 9
                self.assertIs(is_row(world, (way, cap)), expected, (way, cap))

    def test_rows_that_do_not_follow(self):
        self.assertIs(is_row(TWICE, (0, 9)), True)
        self.assertIs(is_row(TWICE, (3, 0)), True)
        self.assertIs(holds(TWICE, [(0, 9)]), False)

    def test_any_thing(self):
        for thing in NO_ROWS:
            self.assertIs(is_row(TWICE, thing), False, repr(thing))
            self.assertIs(is_row(BARE, thing), False, repr(thing))
        self.assertIs(is_row(BARE, (0, 0)), False)

    def test_no_world(self):
        for thing in ODD_THINGS + ((), 0):
            assert_refused(self, NoWorld, is_row, thing, (0, 2))
            assert_refused(self, NoWorld, is_row, thing, None)


class Holds(unittest.TestCase):
    def told(self, world, rows, caps):
        self.assertIs(holds(world, rows), caps is not None, repr(rows))
        self.assertEqual(caps_of(world, rows), caps, repr(rows))

    def test_the_own_paper(self):
        for world in WORLDS + (AT_ONCE,) + tuple(drawn_worlds(200)):
            self.assertIs(holds(world, paper(world)), True, repr(world))
        self.told(TWICE, [(0, 2), (2, 0), (0, 0)], (0, 2, 0, 2))
        self.told(TALL, [(0, 6)], (6, 1, 4))

    def test_each_beginning(self):
        self.told(TWICE, [], (3, 2, 2, 2))
        self.told(TWICE, [(0, 2)], (2, 2, 2, 2))
        self.told(TWICE, [(0, 2), (2, 0)], (2, 2, 0, 2))
        for world in WORLDS + tuple(drawn_worlds(200)):
            rows = paper(world)
            for many in range(len(rows) + 1):
                self.told(world, rows[:many], caps_by_hand(world, rows[:many]))
                self.assertIs(holds(world, rows[:many]), True)

    def test_another_order_in_which_each_follows(self):
        self.told(TWICE, [(2, 0), (0, 0)], (0, 2, 0, 2))
        self.told(TWICE, [(2, 0), (0, 2), (0, 0)], (0, 2, 0, 2))
        self.told(AT_ONCE, [(2, 0), (3, 0)], (1, 1, 0, 0))
        self.told(AT_ONCE, [(3, 0), (2, 0)], (1, 1, 0, 0))

    def test_a_cap_between_what_is_kept_and_what_is_given(self):
        # On way 2 the givers choose 2, the takers 0 of that: both 0 and 1 follow.
        self.told(TWICE, [(2, 1)], (3, 2, 1, 2))
        self.told(TWICE, [(2, 1), (2, 0), (0, 2), (0, 1), (0, 0)], (0, 2, 0, 2))

    def test_a_cap_that_is_no_less_than_what_is_chosen(self):
        for rows in ([(2, 2)], [(2, 3)], [(0, 3)], [(0, 9)], [(1, 0)], [(1, 1)], [(3, 2)]):
            self.told(TWICE, rows, None)

    def test_a_cap_below_what_the_takers_choose(self):
        for rows in ([(0, 1)], [(0, 0)], [(3, 1)], [(3, 0)], [(0, 2), (0, 1)]):
            self.told(TWICE, rows, None)
        for cap, expected in ((9, None), (8, (8, 1, 4)), (7, (7, 1, 4)), (6, (6, 1, 4)), (5, None), (0, None)):
            self.told(TALL, [(0, cap)], expected)

    def test_a_row_left_out(self):
        self.told(TWICE, [(0, 2), (0, 0)], None)
        self.told(TWICE, [(0, 0)], None)

    def test_a_row_twice(self):
        self.told(TWICE, [(0, 2), (0, 2), (2, 0), (0, 0)], None)
        self.told(TWICE, [(0, 2), (2, 0), (2, 0), (0, 0)], None)
        self.told(TWICE, [(0, 2), (2, 0), (0, 0), (0, 0)], None)

    def test_two_rows_exchanged(self):
        self.told(TWICE, [(0, 0), (2, 0), (0, 2)], None)
        self.told(TWICE, [(0, 2), (0, 0), (2, 0)], None)

    def test_another_way(self):
        self.told(TWICE, [(1, 2), (2, 0), (0, 0)], None)
        self.told(TWICE, [(0, 2), (3, 0), (0, 0)], None)
        self.told(TALL, [(1, 0)], None)
        self.told(TALL, [(2, 0)], None)

    def test_no_list_of_rows(self):
        for thing in NO_PAPERS:
            self.told(TWICE, thing, None)
        for thing in NO_ROWS:
            self.told(TWICE, [thing], None)
            self.told(TWICE, [(0, 2), thing], None)
            self.told(TWICE, [thing, (0, 2)], None)

    def test_of_no_ways(self):
        self.told(BARE, [], ())
        self.told(BARE, [(0, 0)], None)
        self.told(BARE, (), None)

    def test_by_hand_with_up_to_two_rows(self):
        for world in FEW + tuple(drawn_worlds(40)):
            rows = all_rows(world, 3)
            for row in rows:
                self.told(world, [row], caps_by_hand(world, [row]))
            begun = [row for row in rows if holds(world, [row])]
            for one, other in product(begun, rows):
                self.told(world, [one, other], caps_by_hand(world, [one, other]))

    def test_by_hand_in_each_order(self):
        for world in [world for world in drawn_worlds(600) if 2 <= len(paper(world)) <= 4]:
            for rows in permutations(paper(world)):
                self.told(world, list(rows), caps_by_hand(world, rows))

    def test_no_world(self):
        for thing in ODD_THINGS + ((), 0):
            for call in (holds, caps_of):
                assert_refused(self, NoWorld, call, thing, [])
                assert_refused(self, NoWorld, call, thing, None)


class Shows(unittest.TestCase):
    def test_the_best_plan_of_the_givers(self):
        self.assertIs(shows(TWICE, (0, 2, 0, 2), [(0, 2), (2, 0), (0, 0)]), True)
        self.assertIs(shows(TWICE, (0, 2, 0, 2), [(2, 0), (0, 0)]), True)
        self.assertIs(shows(CROSSED, (2, 0, 0, 2), []), True)
        self.assertIs(shows(BARE, (), []), True)
        self.assertIs(shows(TALL, (6, 0, 3), [(0, 7), (0, 6)]), True)

    def test_a_paper_that_is_cut_short(self):
        self.assertIs(shows(TWICE, (0, 2, 0, 2), []), False)
        self.assertIs(shows(TWICE, (0, 2, 0, 2), [(0, 2)]), False)
        self.assertIs(shows(TWICE, (0, 2, 0, 2), [(0, 2), (2, 0)]), False)
        self.assertIs(shows(TALL, (6, 0, 3), [(0, 7)]), False)

    def test_a_plan_that_is_not_at_rest(self):
        for plan in ((0, 0, 0, 0), (0, 1, 0, 2), (2, 0, 0, 2), (0, 2, 0, 1)):
            self.assertIs(shows(TWICE, plan, [(0, 2), (2, 0), (0, 0)]), False)
            self.assertIs(shows(TWICE, plan, []), False)

    def test_another_plan_at_rest(self):
        for plan in ((1, 1, 1, 1), (0, 2, 2, 0)):
            self.assertIs(shows(CROSSED, plan, []), False)

    def test_a_paper_that_does_not_hold(self):
        for thing in NO_PAPERS + ([(0, 2), (0, 0)], [(0, 2), (2, 0), (0, 0), (0, 0)]):
            self.assertIs(shows(TWICE, (0, 2, 0, 2), thing), False, repr(thing))
        self.assertIs(shows(CROSSED, (2, 0, 0, 2), [(0, 1)]), False)
        self.assertIs(shows(CROSSED, (2, 0, 0, 2), [(1, 2)]), False)

    def test_each_plan_with_each_beginning(self):
        for world in FEW + tuple(drawn_worlds(60)):
            rows = paper(world)
            best = best_by_hand(world, 0)
            for plan in plans_by_hand(world):
                for many in range(len(rows) + 1):
                    self.assertIs(shows(world, plan, rows[:many]), plan in best and many == len(rows), repr(world))

    def test_no_plan(self):
        for thing in ODD_THINGS + ((), 0, [0, 2, 0, 2], (0, 2, 0), (3, 0, 0, 0), (0, 2, 0, True)):
            assert_refused(self, NoPlan, shows, TWICE, thing, [(0, 2), (2, 0), (0, 0)])
            assert_refused(self, NoPlan, shows, TWICE, thing, None)

    def test_no_world_ahead_of_no_plan(self):
        for thing in ODD_THINGS + ((), 0):
            assert_refused(self, NoWorld, shows, thing, (0, 2, 0, 2), [])
            assert_refused(self, NoWorld, shows, thing, None, None)


class Within(unittest.TestCase):
    def test_of_plans(self):
        self.assertIs(is_within(TWICE, (0, 2, 0, 2), (0, 2, 0, 2)), True)
        self.assertIs(is_within(TWICE, (0, 2, 0, 2), (3, 2, 2, 2)), True)
        self.assertIs(is_within(TWICE, (0, 2, 0, 2), (9, 99, 10, 10 ** 30)), True)
        self.assertIs(is_within(TWICE, (0, 0, 0, 0), (0, 0, 0, 0)), True)
        self.assertIs(is_within(TWICE, (1, 0, 0, 0), (0, 9, 9, 9)), False)
        self.assertIs(is_within(TWICE, (0, 0, 0, 1), (9, 9, 9, 0)), False)
        self.assertIs(is_within(BARE, (), ()), True)

    def test_one_number_less(self):
        for world in FEW:
            for plan in plans_by_hand(world):
                self.assertIs(is_within(world, plan, plan), True)
                for way, many in enumerate(plan):
                    caps = plan[:way] + (many - 1,) + plan[way + 1:]
                    self.assertIs(is_within(world, plan, caps), False)

    def test_caps_that_are_too_few(self):
        self.assertIs(is_within(TWICE, (0, 2, 0, 2), (3, 2, 2)), False)
        self.assertIs(is_within(TWICE, (0, 2, 0, 0), (3, 2, 2)), False)

    def test_of_things_that_are_no_plan(self):
        for thing in ODD_THINGS + ((), 0, [0, 0, 0, 0], (0, 0, 0), (0, 0, 0, False), (3, 0, 0, 0), (0, 0, 2, 2)):
            self.assertIs(is_within(TWICE, thing, (9, 9, 9, 9)), False, repr(thing))

    def test_plans_at_rest_are_within_the_caps(self):
        for world in FEW:
            for plan in rests_by_hand(world):
                self.assertIs(is_within(world, plan, caps_of(world, paper(world))), True)

    def test_no_world(self):
        for thing in ODD_THINGS + ((), 0):
            assert_refused(self, NoWorld, is_within, thing, (0, 2, 0, 2), (9, 9, 9, 9))
            assert_refused(self, NoWorld, is_within, thing, None, ())


if __name__ == "__main__":
    unittest.main()
