"""Walks from plan to plan: each time a pair leaves, until none would, or until a plan comes again."""

from stillflow.errors import NoPlace
from stillflow.flows import first_leaving, is_still, leaving, ways_of
from stillflow.worlds import check_number, check_plan, replaced, through


def least_liked_used(world, plan, side, place):
    """That of the ways of a place with something on them that it likes least."""
    return [way for way in ways_of(world, side, place) if plan[way] > 0][-1]


def pushed_on(world, plan, way):
    """The plan with one more on a way that is known to be among leaving."""
    changed = replaced(plan, way, plan[way] + 1)
    for side in (0, 1):
        place = world[2][way][side]
        if through(world, plan, side, place) == world[side][place][0]:
            # Something goes on a way that the place likes less, or it would not have more go on this one.
            given_up = least_liked_used(world, plan, side, place)
            changed = replaced(changed, given_up, changed[given_up] - 1)
    return changed


def pushed(world, plan, way):
    """The plan with one more on a way that is among leaving, and less where an end has nothing left for it."""
    check_plan(world, plan)
    check_number(way, len(plan))
    if way not in leaving(world, plan):
        raise NoPlace("no pair would leave the plan for this way")
    return pushed_on(world, plan, way)


def walk(world, plan):
    """A list of plans, this one first, each behind the one that it is pushed of by the first way of leaving."""
    check_plan(world, plan)
    found = [plan]
    # A walk may be long, so what is in it already is looked up here.
    seen = {plan: True}
    way = first_leaving(world, plan)
    while way is not None:
        reached = pushed_on(world, found[-1], way)
        if reached in seen:
            return found
        found.append(reached)
        seen[reached] = True
        way = first_leaving(world, reached)
    return found


def comes_to_rest(world, plan):
    """Whether the last plan of the walk is at rest."""
    return is_still(world, walk(world, plan)[-1])
