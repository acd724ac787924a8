"""Worlds with more, or less: other amounts and limits, a way gone, a way come."""

from stillflow.errors import NoPlace
from stillflow.worlds import MOST, check_number, check_place, check_whole, check_world, replaced


def with_end(world, side, place, amount, likes):
    """The world with this amount and these likes at a place of a side."""
    return replaced(world, side, replaced(world[side], place, (amount, likes)))


def with_likes(world, side, place, likes):
    """The world with other likes at a place of a side."""
    return with_end(world, side, place, world[side][place][0], likes)


def with_ways(world, ways):
    """The world with other ways, whatever the likes are."""
    return replaced(world, 2, tuple(ways))


def with_amount(world, side, place, amount):
    """The world with another amount at a place of a side."""
    check_world(world)
    check_place(world, side, place)
    check_whole(amount, 0, MOST)
    return with_end(world, side, place, amount, world[side][place][1])


def with_limit(world, way, limit):
    """The world with another limit of a way."""
    check_world(world)
    check_number(way, len(world[2]))
    check_whole(limit, 1, MOST)
    old = world[2][way]
    return with_ways(world, replaced(world[2], way, (old[0], old[1], limit)))


def without_way(world, way):
    """The world without a way, and without its ends in the likes of one another."""
    check_world(world)
    check_number(way, len(world[2]))
    gone = world[2][way]
    changed = with_ways(world, [kept for kept in world[2] if kept != gone])
    for side in (0, 1):
        old = world[side][gone[side]][1]
        changed = with_likes(changed, side, gone[side], tuple([other for other in old if other != gone[1 - side]]))
    return changed


def inserted(old, number, other):
    """The likes with another one ahead of that at this place, or behind all."""
    return old[:number] + (other,) + old[number:]


def with_way(world, giver, taker, limit, at_giver, at_taker):
    """The world with a way more, in the likes of both ends ahead of those at these places, or behind all."""
    check_world(world)
    check_place(world, 0, giver)
    check_place(world, 1, taker)
    check_whole(limit, 1, MOST)
    of_giver = world[0][giver][1]
    of_taker = world[1][taker][1]
    # Behind all is one place more than the likes have.
    check_number(at_giver, len(of_giver) + 1)
    check_number(at_taker, len(of_taker) + 1)
    if taker in of_giver:
        raise NoPlace("there is a way between these two already")
    changed = with_ways(world, sorted(world[2] + ((giver, taker, limit),)))
    changed = with_likes(changed, 0, giver, inserted(of_giver, at_giver, taker))
    return with_likes(changed, 1, taker, inserted(of_taker, at_taker, giver))
