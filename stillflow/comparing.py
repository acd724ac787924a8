"""Two plans compared, and put together: what a place, or a side, chooses with both on offer."""

from stillflow.finding import chosen_by_all
from stillflow.flows import chosen_by, ways_of
from stillflow.worlds import check_place, check_plan, check_side


def greater(one, other):
    """Of two tuples of numbers the greater ones, place by place."""
    return tuple([max(here, there) for here, there in zip(one, other)])


def on_ways_of(world, side, place, numbers):
    """The tuple of those of the numbers, one for each way, that are of a place, the most liked way first."""
    return tuple([numbers[way] for way in ways_of(world, side, place)])


def would_keep(world, side, place, one, other):
    """Whether a place of a side, with two plans on offer, all known to be such, would choose as in the one."""
    chosen = chosen_by(world, side, place, greater(one, other))
    return on_ways_of(world, side, place, chosen) == on_ways_of(world, side, place, one)


def check_both(world, one, other):
    """NoWorld of any thing that is none; behind that NoPlan likewise of each of two plans."""
    check_plan(world, one)
    check_plan(world, other)


def likes(world, side, place, one, other):
    """Whether a place of a side, with two plans on offer, would choose what goes on its ways in the one."""
    check_both(world, one, other)
    check_place(world, side, place)
    return would_keep(world, side, place, one, other)


def all_like(world, side, one, other):
    """Whether all places of a side, with two plans on offer, would choose what goes in the one."""
    check_both(world, one, other)
    check_side(side)
    return all([would_keep(world, side, place, one, other) for place in range(len(world[side]))])


def together(world, side, one, other):
    """What all places of a side choose with two plans on offer."""
    check_both(world, one, other)
    check_side(side)
    return chosen_by_all(world, side, greater(one, other))


def rank(world, side, place, plan):
    """The tuple of what goes on the ways of a place, the most liked one first."""
    check_plan(world, plan)
    check_place(world, side, place)
    return on_ways_of(world, side, place, plan)
