"""Promise 13.1: rows of plans as texts, and read back."""

import unittest

from stillflow.errors import NoPlan, NoText, NoWorld
from stillflow.walks import walk
from stillflow.walktexts import read_walk, walk_text
from tests.examples import (
    BARE, CIRCLE, CIRCLE_WALK, CROSSED, FULL, ODD_THINGS, ONE, ROUND, TALL, TWICE, UNEVEN, WORLDS, assert_refused,
    drawn_worlds, nested, plans_by_hand, wrong_writings,
)


def plans_of_text_by_hand(world, text):
    """The list of plans of which a text is the writing, None without any: each line is looked up among all."""
    known = {" ".join(map(str, plan)) or ".": plan for plan in plans_by_hand(world)}
    lines = text.split("\n")
    if lines.pop() != "" or not all(line in known for line in lines):
        return None
    return [known[line] for line in lines]


class Written(unittest.TestCase):
    def told(self, world, plans, text):
        self.assertEqual(walk_text(world, plans), text)
        self.assertEqual(read_walk(world, text), plans)

    def test_no_plans(self):
        for world in WORLDS:
            self.told(world, [], "")

    def test_one_plan(self):
        self.told(ONE, [(2,)], "2\n")
        self.told(UNEVEN, [(1, 4, 0, 2, 2)], "1 4 0 2 2\n")
        self.told(TALL, [(9, 0, 0)], "9 0 0\n")

    def test_several_plans(self):
        self.told(ONE, [(0,), (1,), (2,)], "0\n1\n2\n")
        self.told(CROSSED, [(2, 0, 0, 2), (0, 0, 0, 0), (2, 0, 0, 2)], "2 0 0 2\n0 0 0 0\n2 0 0 2\n")

    def test_plans_of_no_ways(self):
        self.told(BARE, [()], ".\n")
        self.told(BARE, [(), (), ()], ".\n.\n.\n")

    def test_walks(self):
        self.told(CIRCLE, CIRCLE_WALK, (
            "0 0 0 0 1 1 0\n1 0 0 0 1 0 0\n0 0 1 0 1 0 0\n0 0 1 1 0 0 0\n0 1 0 1 0 0 0\n0 1 0 0 0 1 0\n"
        ))
        plans = walk(FULL, (0,) * 16)
        self.told(FULL, plans, "".join(" ".join(map(str, plan)) + "\n" for plan in plans))

    def test_all_plans(self):
        for world in (ONE, CROSSED, TALL, TWICE, ROUND) + tuple(drawn_worlds(40)):
            plans = list(plans_by_hand(world))[::-1]
            self.told(world, plans, "".join((" ".join(map(str, plan)) or ".") + "\n" for plan in plans))


class NoTexts(unittest.TestCase):
    def test_another_form(self):
        for text in (
            "\n", " ", "\n\n", ".", ".\n", "0 0 0 0", "0 0 0 0\n\n", "\n0 0 0 0\n", "0 0 0 0\n\n0 0 0 0\n",
            "0 0 0 0 \n", " 0 0 0 0\n", "0  0 0 0\n", "0 0 0\n", "0 0 0 0 0\n", "00 0 0 0\n", "0 0 0 00\n",
            "01 0 0 0\n", "+1 0 0 0\n",
            "-0 0 0 0\n", "0,0,0,0\n", "0 0 0 .\n", "0 0 0 0.\n", "0000\n", "0\t0 0 0\n", "0 0 0 0\r\n", "a 0 0 0\n",
            "0 0 0 0\n.\n", "0 0\n0 0\n", "0 0 0 \u0661\n", "0 0 0 \u00b9\n", "0 0 0 0\x0b", "0 0 0 0\u2028",
            "1_ 0 0 0\n",
        ):
            assert_refused(self, NoText, read_walk, CROSSED, text)

    def test_a_line_of_no_plan(self):
        for text in ("3 0 0 0\n", "2 1 0 0\n", "2 0 1 0\n", "10 0 0 0\n", "0 0 0 0\n2 2 2 2\n", "2 2 2 2\n0 0 0 0\n"):
            assert_refused(self, NoText, read_walk, CROSSED, text)

    def test_of_no_ways(self):
        for text in ("\n", ".", ". \n", " .\n", "..\n", ". .\n", "0\n", ".\n\n", ".\n0\n", " \n", "()\n"):
            assert_refused(self, NoText, read_walk, BARE, text)

    def test_each_sign_more_less_and_other(self):
        signs = "\n !+,-.0123456789_a~"
        for world, plans in (
            (ONE, [(0,), (2,)]), (BARE, [(), ()]), (CROSSED, [(2, 0, 0, 1), (0, 1, 1, 0)]), (TALL, [(6, 0, 3)]),
            (TWICE, []),
        ):
            for text in wrong_writings(walk_text(world, plans), signs):
                expected = plans_of_text_by_hand(world, text)
                if expected is None:
                    assert_refused(self, NoText, read_walk, world, text)
                else:
                    self.assertEqual(read_walk(world, text), expected, repr(text))


class Refused(unittest.TestCase):
    def test_things_that_are_no_list_of_plans(self):
        # A list without plans is a list of plans like any other.
        for thing in [thing for thing in ODD_THINGS if thing != []] + [
            (), 0, (0, 0, 0, 0), ((0, 0, 0, 0),), [(0, 0, 0, 0), None], [None, (0, 0, 0, 0)], [[0, 0, 0, 0]],
            [(0, 0, 0, 0), (0, 0, 0)], [(3, 0, 0, 0)], [(2, 1, 0, 0)], [(0, 0, 0, False)], [(0, 0, 0, "0")],
            [0, 0, 0, 0], {(0, 0, 0, 0): True}, "0 0 0 0\n", ["0 0 0 0"], [[(0, 0, 0, 0)]], [()], nested(list, 10),
        ]:
            assert_refused(self, NoPlan, walk_text, CROSSED, thing)
        for thing in ((), [None], [(0,)], [[]], ((),), None, "."):
            assert_refused(self, NoPlan, walk_text, BARE, thing)

    def test_no_world_ahead_of_others(self):
        for thing in ODD_THINGS + ((), 0):
            for other in ([], [(0, 0, 0, 0)], None, "none"):
                assert_refused(self, NoWorld, walk_text, thing, other)
            for text in ("", "0 0 0 0\n", "none"):
                assert_refused(self, NoWorld, read_walk, thing, text)


class Apart(unittest.TestCase):
    """0.3"""

    def test_told_lists_are_new_ones(self):
        for world, text in ((ONE, "0\n1\n"), (ONE, ""), (BARE, ".\n")):
            first = read_walk(world, text)
            self.assertIs(type(first), list)
            first.append("more")
            self.assertEqual(read_walk(world, text), first[:-1])

    def test_lists_that_are_handed_in_are_neither_changed_nor_kept(self):
        plans = [(0,), (1,)]
        self.assertEqual(walk_text(ONE, plans), "0\n1\n")
        self.assertEqual(plans, [(0,), (1,)])
        plans.append((2,))
        self.assertEqual(walk_text(ONE, plans), "0\n1\n2\n")


if __name__ == "__main__":
    unittest.main()
