"""Rows of plans as texts, and read back from them."""

from stillflow.errors import NoPlan, NoText
from stillflow.texts import line_of, lines_of, numbers_of, text_of_lines
from stillflow.worlds import check_world, is_plan

POINT = "."


def plan_line(plan):
    """The line of a plan: its numbers, or a point, if there are none."""
    return POINT if len(plan) == 0 else line_of(plan)


def plan_of_line(line):
    """The tuple of the numbers of a line; NoText, if they are no numbers."""
    return () if line == POINT else numbers_of(line.split(" "))


def are_plans(world, things):
    """Whether all things of a list are plans of the world."""
    return all([is_plan(world, thing) for thing in things])


def walk_text(world, plans):
    """The text of a list of plans."""
    check_world(world)
    if not isinstance(plans, list) or not are_plans(world, plans):
        raise NoPlan("this is no list of plans of the world")
    return text_of_lines([plan_line(plan) for plan in plans])


def read_walk(world, text):
    """The list of plans of the world of which the text is the writing."""
    check_world(world)
    plans = [plan_of_line(line) for line in lines_of(text)]
    if not are_plans(world, plans):
        raise NoText("a line is that of no plan of the world")
    return plans
