"""What plans cost the places and the sides, and the fairest plan at rest."""

from stillflow.comparing import on_ways_of
from stillflow.listing import all_rests
from stillflow.worlds import check_place, check_plan


def cost_of_place(world, side, place, plan):
    """What all of its amount costs a place of a side, all known to be such."""
    much = on_ways_of(world, side, place, plan)
    left = world[side][place][0] - sum(much)
    return sum([number * many for number, many in enumerate(much)]) + left * len(much)


def cost_of_side(world, side, plan):
    """What comes together of the costs of all places of a side."""
    return sum([cost_of_place(world, side, place, plan) for place in range(len(world[side]))])


def cost(world, side, place, plan):
    """What all of its amount costs a place of a side."""
    check_plan(world, plan)
    check_place(world, side, place)
    return cost_of_place(world, side, place, plan)


def costs(world, plan):
    """A tuple of what a plan costs all givers together, and all takers."""
    check_plan(world, plan)
    return (cost_of_side(world, 0, plan), cost_of_side(world, 1, plan))


def unfairness(world, plan):
    """What a plan costs both sides together, and then how far the costs of both lie from one another."""
    of_givers = cost_of_side(world, 0, plan)
    of_takers = cost_of_side(world, 1, plan)
    return (of_givers + of_takers, abs(of_givers - of_takers))


def fairest(world):
    """Of all plans at rest the one with the least costs, of such that with the nearest ones, of such the first."""
    # Of several that are as good min takes the first one.
    return min(all_rests(world), key=lambda plan: unfairness(world, plan))
