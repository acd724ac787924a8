"""Worlds and plans: which things are such, and both as the other side sees them.

A side is 0, of the givers, or 1, of the takers. A world holds the places of a
side at the side's own number, and so does a way its end on this side; what is
said of one side is therefore written once for both.
"""

from stillflow.errors import NoPlace, NoPlan, NoWorld

MOST_PLACES = 4
MOST = 9


def is_whole(thing, least, most):
    """Whether any thing is a whole number from least to most."""
    # To Python a truth is an int; here it is no whole number.
    if not isinstance(thing, int) or isinstance(thing, bool):
        return False
    return least <= thing <= most


def is_number(thing, many):
    """Whether any thing is the number of one of so many, numbered from 0."""
    return is_whole(thing, 0, many - 1)


def is_long(thing, least, most):
    """Whether any thing is a tuple with from least to most parts."""
    return isinstance(thing, tuple) and least <= len(thing) <= most


def are_likes(thing, many):
    """Whether any thing is a tuple of numbers of so many others, none twice."""
    if not isinstance(thing, tuple):
        return False
    if not all([is_number(other, many) for other in thing]):
        return False
    return len(set(thing)) == len(thing)


def is_end(thing, many):
    """Whether any thing is a giver, or a taker, with so many on the other side."""
    return is_long(thing, 2, 2) and is_whole(thing[0], 0, MOST) and are_likes(thing[1], many)


def is_way(thing, givers, takers):
    """Whether any thing is a way between one of so many givers and one of so many takers."""
    if not is_long(thing, 3, 3):
        return False
    return is_number(thing[0], givers) and is_number(thing[1], takers) and is_whole(thing[2], 1, MOST)


def are_parts(givers, takers, ways):
    """Whether three things are givers, takers and ways, each looked at by itself."""
    if not is_long(givers, 1, MOST_PLACES) or not is_long(takers, 1, MOST_PLACES):
        return False
    if not all([is_end(giver, len(takers)) for giver in givers]):
        return False
    if not all([is_end(taker, len(givers)) for taker in takers]):
        return False
    return isinstance(ways, tuple) and all([is_way(way, len(givers), len(takers)) for way in ways])


def liked_pairs(places):
    """A list of all tuples (place, other) of whom the place likes the other."""
    pairs = []
    for number, place in enumerate(places):
        pairs.extend([(number, other) for other in place[1]])
    return pairs


def is_world(thing):
    """Whether any thing is a world."""
    if not is_long(thing, 3, 3) or not are_parts(thing[0], thing[1], thing[2]):
        return False
    # No likes hold one twice, so a list that equals a sorted one of pairs from likes is rising.
    joined = [(way[0], way[1]) for way in thing[2]]
    by_givers = sorted(liked_pairs(thing[0]))
    by_takers = sorted([(giver, taker) for taker, giver in liked_pairs(thing[1])])
    return joined == by_givers and joined == by_takers


def through(world, plan, side, place):
    """How much goes, in a plan, on all ways of a place of a side."""
    return sum([many for way, many in zip(world[2], plan) if way[side] == place])


def keeps_amounts(world, plan, side):
    """Whether no place of a side has more on its ways than its amount."""
    return all([through(world, plan, side, number) <= place[0] for number, place in enumerate(world[side])])


def is_plan(world, thing):
    """Whether any thing is a plan of a world."""
    ways = world[2]
    if not is_long(thing, len(ways), len(ways)):
        return False
    if not all([is_whole(many, 0, way[2]) for way, many in zip(ways, thing)]):
        return False
    return keeps_amounts(world, thing, 0) and keeps_amounts(world, thing, 1)


def check_world(world):
    """NoWorld of any thing that is none."""
    if not is_world(world):
        raise NoWorld("this is no world")


def check_plan(world, plan):
    """NoWorld of any thing that is none; behind that NoPlan likewise."""
    check_world(world)
    if not is_plan(world, plan):
        raise NoPlan("this is no plan of the world")


def check_whole(thing, least, most):
    """NoPlace of any thing that is no whole number from least to most."""
    if not is_whole(thing, least, most):
        raise NoPlace("there is none of this number")


def check_number(thing, many):
    """NoPlace of any thing that is not the number of one of so many."""
    check_whole(thing, 0, many - 1)


def check_side(thing):
    """NoPlace of any thing that is no side."""
    # What is no side has no places, so that none of them has any number.
    check_number(thing, 2)


def check_place(world, side, place):
    """NoPlace of any two things that are not a side and the number of one of its places."""
    check_side(side)
    check_number(place, len(world[side]))


def replaced(parts, number, part):
    """The tuple with another part in the place of the one of this number."""
    return parts[:number] + (part,) + parts[number + 1:]


def turned_order(world):
    """A list of the numbers of all ways, in the order that they have in the turned world."""
    ways = world[2]
    return sorted(range(len(ways)), key=lambda number: (ways[number][1], ways[number][0]))


def turned(world):
    """The world in which the takers are givers, and the givers takers."""
    check_world(world)
    ways = [world[2][number] for number in turned_order(world)]
    return (world[1], world[0], tuple([(taker, giver, limit) for giver, taker, limit in ways]))


def turned_plan(world, plan):
    """The same plan in the turned world."""
    check_plan(world, plan)
    return tuple([plan[number] for number in turned_order(world)])
