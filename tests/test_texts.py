"""Promises 9.1 and 9.2: worlds and plans as texts, and read back."""

import re
import unittest

from stillflow.errors import NoPlan, NoText, NoWorld
from stillflow.finding import givers_best, takers_best
from stillflow.texts import plan_text, read_plan, read_world, world_text
from stillflow.worlds import is_world
from tests.examples import (
    BARE, CROSSED, FULL, ODD_THINGS, ONE, RIVALS, TALL, TWICE, UNEVEN, WORLDS, assert_refused, drawn_worlds,
    plans_by_hand, small_worlds, wrong_writings,
)

MANY = WORLDS + tuple(list(small_worlds())[::7]) + tuple(drawn_worlds(200))

UNEVEN_LINES = (
    "give 5 1 0", "give 0 0", "give 4 0 1", "take 3 2 0 1", "take 9 0 2",
    "way 0 0 3", "way 0 1 4", "way 1 0 1", "way 2 0 2", "way 2 1 9",
)

FLOW = re.compile(r"([0-3]) -([1-9])> ([0-3])\n")


def ended(lines):
    return "".join(line + "\n" for line in lines)


def world_by_hand(text):
    """The world of which a text is the writing, None without any."""
    form = r"((?:give [0-9](?: [0-9])*\n)+)((?:take [0-9](?: [0-9])*\n)+)((?:way [0-9] [0-9] [0-9]\n)*)"
    found = re.fullmatch(form, text)
    if found is None:
        return None
    parts = [[[int(word) for word in line.split(" ")[1:]] for line in part.splitlines()] for part in found.groups()]
    ends = [tuple((numbers[0], tuple(numbers[1:])) for numbers in part) for part in parts[:2]]
    world = (ends[0], ends[1], tuple(tuple(numbers) for numbers in parts[2]))
    return world if is_world(world) else None


def plan_by_hand(world, text):
    """The plan of the world of which a text is the writing, None without any."""
    if FLOW.sub("", text) != "":
        return None
    flows = [tuple(int(word) for word in flow) for flow in FLOW.findall(text)]
    pairs = [(giver, taker) for giver, _, taker in flows]
    if pairs != sorted(set(pairs)) or not set(pairs) <= {way[:2] for way in world[2]}:
        return None
    much = {(giver, taker): many for giver, many, taker in flows}
    plan = tuple(much.get(way[:2], 0) for way in world[2])
    return plan if plan in plans_by_hand(world) else None


class WorldTexts(unittest.TestCase):
    def told(self, world, text):
        self.assertEqual(world_text(world), text)
        self.assertEqual(read_world(text), world)

    def test_line_by_line(self):
        self.told(ONE, "give 3 0\ntake 4 0\nway 0 0 2\n")
        self.told(UNEVEN, ended(UNEVEN_LINES))

    def test_empty_likes(self):
        self.told(TALL, ended((
            "give 9 0", "give 0 0", "give 1", "give 3 0", "take 9 3 0 1", "way 0 0 9", "way 1 0 1", "way 3 0 4",
        )))

    def test_without_ways(self):
        self.told(BARE, "give 0\ntake 9\n")
        self.told((((1, ()), (2, ())), ((3, ()),), ()), "give 1\ngive 2\ntake 3\n")

    def test_of_many_worlds(self):
        for world in MANY:
            lines = [" ".join(map(str, ("give", amount) + likes)) for amount, likes in world[0]]
            lines += [" ".join(map(str, ("take", amount) + likes)) for amount, likes in world[1]]
            lines += [" ".join(map(str, ("way",) + way)) for way in world[2]]
            self.told(world, ended(lines))

    def test_no_world(self):
        for thing in ODD_THINGS + ((), 0, world_text(ONE)):
            assert_refused(self, NoWorld, world_text, thing)


class PlanTexts(unittest.TestCase):
    def told(self, world, plan, text):
        self.assertEqual(plan_text(world, plan), text)
        self.assertEqual(read_plan(world, text), plan)

    def test_line_by_line(self):
        self.told(UNEVEN, (1, 4, 0, 2, 2), "0 -1> 0\n0 -4> 1\n2 -2> 0\n2 -2> 1\n")
        self.told(UNEVEN, (0, 0, 0, 2, 0), "2 -2> 0\n")
        self.told(TALL, (9, 0, 0), "0 -9> 0\n")

    def test_with_nothing_going(self):
        for world in WORLDS:
            self.told(world, (0,) * len(world[2]), "")

    def test_of_no_ways(self):
        self.told(BARE, (), "")

    def test_of_great_worlds(self):
        for world in (FULL, RIVALS):
            for plan in (givers_best(world), takers_best(world)):
                rows = [f"{giver} -{many}> {taker}" for (giver, taker, _), many in zip(world[2], plan) if many]
                self.told(world, plan, ended(rows))

    def test_of_all_plans(self):
        for world in (ONE, CROSSED, TWICE, TALL) + tuple(drawn_worlds(60)):
            for plan in plans_by_hand(world):
                rows = [f"{giver} -{many}> {taker}" for (giver, taker, _), many in zip(world[2], plan) if many]
                self.told(world, plan, ended(rows))

    def test_no_plan(self):
        for thing in ODD_THINGS + ((), 0, [0, 0, 0, 0], (0, 0, 0), (3, 0, 0, 0), (0, 0, 0, True), (0, 0, 2, 2)):
            assert_refused(self, NoPlan, plan_text, TWICE, thing)

    def test_no_world_ahead_of_no_plan(self):
        for thing in ODD_THINGS + ((), 0):
            assert_refused(self, NoWorld, plan_text, thing, ())
            assert_refused(self, NoWorld, plan_text, thing, None)


class NoWorldTexts(unittest.TestCase):
    def test_the_empty_text(self):
        for text in ("", "\n", "\n\n", " ", " \n"):
            assert_refused(self, NoText, read_world, text)

    def test_another_form(self):
        for text in (
            "give 3 0\ntake 4 0\nway 0 0 2", "give 3 0\ntake 4 0\nway 0 0 2\n\n", "\ngive 3 0\ntake 4 0\nway 0 0 2\n",
            "give 3 0\n\ntake 4 0\nway 0 0 2\n", "give 3 0\ntake 4 0\nway 0 0 2 \n", " give 3 0\ntake 4 0\nway 0 0 2\n",
            "give  3 0\ntake 4 0\nway 0 0 2\n", "give 3 0 \ntake 4 0\nway 0 0 2\n", "give 30\ntake 4 0\nway 0 0 2\n",
            "give 3 0 take 4 0\nway 0 0 2\n", "give 3 0\ntake 4 0\nway 0 0 2\nway 0 0 2\n",
            "give 3 0\ntake 4 0\n", "give 3 0\nway 0 0 2\n", "take 4 0\nway 0 0 2\n", "way 0 0 2\n", "give 3\n",
            "take 4 0\ngive 3 0\nway 0 0 2\n", "way 0 0 2\ngive 3 0\ntake 4 0\n", "give 3 0\nway 0 0 2\ntake 4 0\n",
            "3 give 0\ntake 4 0\nway 0 0 2\n", "give 3 0\ntake 4 0\n0 0 2 way\n", "give 3 0\ntake 4 0\n0 way 0 2\n",
            "give 03 0\ntake 4 0\nway 0 0 2\n", "give 3 00\ntake 4 0\nway 0 0 2\n", "give 3 0\ntake 4 0\nway 0 0 02\n",
            "give +3 0\ntake 4 0\nway 0 0 2\n", "give 3 -0\ntake 4 0\nway 0 0 2\n", "give 3 0\ntake 4 0\nway 0 0 +2\n",
            "give 3, 0\ntake 4 0\nway 0 0 2\n", "Give 3 0\ntake 4 0\nway 0 0 2\n", "give 3 0\nTAKE 4 0\nway 0 0 2\n",
            "given 3 0\ntake 4 0\nway 0 0 2\n", "give three 0\ntake 4 0\nway 0 0 2\n", "give\ntake 4\n", "give\ntake\n",
            "give 3 0\ntake 4 0\nway 0 0\n", "give 3 0\ntake 4 0\nway 0 0 2 2\n", "give 3 0\ntake 4 0\nway\n",
            "give 3 0\ntake 4 0\nway 0 0 2\ngive\n", "give 3 0\ntake 4 0\nway 0 0 2\nx\n", "give 1_0\ntake 4\n",
        ):
            assert_refused(self, NoText, read_world, text)

    def test_of_no_world(self):
        for text in (
            "give 3 0\ntake 4 0\nway 0 0 0\n", "give 3 0\ntake 4 0\nway 0 0 10\n", "give 10 0\ntake 4 0\nway 0 0 2\n",
            "give 3\ntake 4 0\nway 0 0 2\n", "give 3 0\ntake 4\nway 0 0 2\n", "give 3 0 0\ntake 4 0\nway 0 0 2\n",
            "give 3 1\ntake 4 0\nway 0 0 2\n", "give 3 0\ntake 4 0\nway 0 1 2\n", "give 3 0\ntake 4 1\nway 1 0 2\n",
            "give 1\n" * 5 + "take 1\n", "give 1\n" + "take 1\n" * 5, "give 1\n", "take 1\n",
            "give 1 0\ngive 1 0\ntake 2 0 1\nway 1 0 1\nway 0 0 1\n",
        ):
            assert_refused(self, NoText, read_world, text)

    def test_lines_left_out_twice_and_exchanged(self):
        for number, line in enumerate(UNEVEN_LINES):
            rest = UNEVEN_LINES[:number] + UNEVEN_LINES[number + 1:]
            assert_refused(self, NoText, read_world, ended(rest))
            assert_refused(self, NoText, read_world, ended(rest[:number] + (line, line) + rest[number:]))
        # No two neighbours here can be exchanged so that another world is written.
        for number in range(len(UNEVEN_LINES) - 1):
            lines = list(UNEVEN_LINES)
            lines[number], lines[number + 1] = lines[number + 1], lines[number]
            assert_refused(self, NoText, read_world, ended(lines))

    def test_other_digits_and_line_ends(self):
        for text in (
            "give 3 0\r\ntake 4 0\r\nway 0 0 2\r\n", "give 3 0\rtake 4 0\rway 0 0 2\r",
            "give\t3 0\ntake 4 0\nway 0 0 2\n", "give \u0663 0\ntake 4 0\nway 0 0 2\n",
            "give \u00b3 0\ntake 4 0\nway 0 0 2\n", "give 3 0\x0btake 4 0\x0bway 0 0 2\x0b",
            "give 3 0\u2028take 4 0\nway 0 0 2\n",
        ):
            assert_refused(self, NoText, read_world, text)

    def test_each_sign_more_less_and_other(self):
        signs = "\n !+-.0123456789>_abegiktvwy~"
        for world in (ONE, BARE, CROSSED, UNEVEN, TALL):
            for text in wrong_writings(world_text(world), signs):
                expected = world_by_hand(text)
                if expected is None:
                    assert_refused(self, NoText, read_world, text)
                else:
                    self.assertEqual(read_world(text), expected, repr(text))


class NoPlanTexts(unittest.TestCase):
    def test_another_form(self):
        for text in (
            "\n", " ", " \n", "0 -2> 0", "0 -2> 0\n\n", "\n0 -2> 0\n", "0 -2> 0 \n", " 0 -2> 0\n", "0  -2> 0\n",
            "0 -2>  0\n", "0 - 2> 0\n", "0 -2 > 0\n", "0-2>0\n", "0 -02> 0\n", "00 -2> 0\n", "0 -2> 00\n", "0 -+2> 0\n",
            "+0 -2> 0\n", "0 --2> 0\n", "0 2 0\n", "0 2> 0\n", "0 -2 0\n", "0 <2- 0\n", "-2> 0 0\n", "0 0 -2>\n",
            "0 -2> 0\n0 -2> 0\n", "0 -1> 0\n0 -1> 0\n", "0 -2> 0\r\n", "0 -> 0\n", "0 -2>\n", "-2> 0\n", "0 -2> 0;\n",
            "0 -\u0662> 0\n", "0 -2> 0\u2028", "0 -2> 0\x0b",
        ):
            assert_refused(self, NoText, read_plan, CROSSED, text)
        self.assertEqual(read_plan(CROSSED, "0 -2> 0\n"), (2, 0, 0, 0))

    def test_of_no_plan_of_this_world(self):
        for world, text in (
            (ONE, "0 -3> 0\n"),                     # more than the limit
            (ONE, "0 -0> 0\n"),                     # a way with 0
            (ONE, "0 -10> 0\n"),
            (ONE, "1 -1> 0\n"),                     # no such giver
            (ONE, "0 -1> 1\n"),
            (BARE, "0 -1> 0\n"),                    # a pair without a way
            (UNEVEN, "1 -1> 1\n"),
            (UNEVEN, "1 -1> 0\n"),                  # more than the giver's amount
            (UNEVEN, "0 -3> 0\n0 -3> 1\n"),
            (UNEVEN, "0 -2> 0\n2 -2> 0\n"),         # more than the taker's room
            (UNEVEN, "0 -4> 1\n0 -1> 0\n"),         # lines exchanged
            (UNEVEN, "2 -2> 0\n0 -4> 1\n"),
            (CROSSED, "0 -2> 0\n1 -0> 0\n1 -2> 1\n"),
            (CROSSED, "0 -2> 0\n0 -1> 1\n"),
        ):
            assert_refused(self, NoText, read_plan, world, text)

    def test_the_text_of_a_world(self):
        for world in WORLDS:
            assert_refused(self, NoText, read_plan, world, world_text(world))
            assert_refused(self, NoText, read_world, plan_text(world, givers_best(world)))

    def test_each_sign_more_less_and_other(self):
        signs = "\n !+-.0123456789<>_a~"
        for world in (ONE, BARE, CROSSED, TWICE, TALL):
            for text in wrong_writings(plan_text(world, givers_best(world)), signs):
                expected = plan_by_hand(world, text)
                if expected is None:
                    assert_refused(self, NoText, read_plan, world, text)
                else:
                    self.assertEqual(read_plan(world, text), expected, repr(text))

    def test_no_world_ahead_of_no_text(self):
        for thing in ODD_THINGS + ((), 0, world_text(ONE)):
            for text in ("", "0 -1> 0\n", "none"):
                assert_refused(self, NoWorld, read_plan, thing, text)


if __name__ == "__main__":
    unittest.main()
