"""All plans of a world, those of them that are at rest, and what is alike in all of these."""

from stillflow.errors import TooMany
from stillflow.finding import givers_best, takers_best
from stillflow.flows import is_still
from stillflow.worlds import check_side, check_world, is_plan, through

MOST_LISTED = 3000


def check_many(world):
    """TooMany of a world with more choices of a number for each way than are listed."""
    many = 1
    for way in world[2]:
        many = many * (way[2] + 1)
    if many > MOST_LISTED:
        raise TooMany("there are too many plans to list them")


def within_limits(ways):
    """A rising list of all tuples of a number for each way from 0 to its limit."""
    found = [()]
    for way in ways:
        longer = []
        for begun in found:
            longer.extend([begun + (many,) for many in range(way[2] + 1)])
        found = longer
    return found


def all_plans(world):
    """A rising list of all plans."""
    check_world(world)
    check_many(world)
    return [numbers for numbers in within_limits(world[2]) if is_plan(world, numbers)]


def all_rests(world):
    """A rising list of all plans at rest."""
    return [plan for plan in all_plans(world) if is_still(world, plan)]


def is_single(world):
    """Whether just one plan is at rest."""
    # All plans at rest lie between these two: what one side likes more the other one likes less.
    return givers_best(world) == takers_best(world)


def is_alike(plans, way):
    """Whether as much goes on a way in all of the plans."""
    return all([plan[way] == plans[0][way] for plan in plans])


def always(world):
    """A list of tuples (way, many) of all ways on which as much goes in all plans at rest."""
    found = all_rests(world)
    return [(way, many) for way, many in enumerate(found[0]) if is_alike(found, way)]


def through_all(world, plan, side):
    """The tuple of how much goes, in a plan, on all ways of each place of a side."""
    return tuple([through(world, plan, side, place) for place in range(len(world[side]))])


def totals(world):
    """What each giver sends, and what each taker takes, in all plans at rest: a tuple of two tuples."""
    # All plans at rest agree in this, so one of them tells it of all.
    plan = givers_best(world)
    return (through_all(world, plan, 0), through_all(world, plan, 1))


def short(world, side):
    """A rising list of the places of a side of which less goes, in all plans at rest, than the amount."""
    check_world(world)
    check_side(side)
    sums = totals(world)[side]
    return [number for number, place in enumerate(world[side]) if sums[number] < place[0]]
