"""What goes in a plan, what a place would choose, and which plans are at rest."""

from stillflow.worlds import check_number, check_place, check_plan, check_world, through


def sent(world, plan, giver):
    """How much goes on all ways of a giver."""
    check_plan(world, plan)
    check_number(giver, len(world[0]))
    return through(world, plan, 0, giver)


def taken(world, plan, taker):
    """How much goes on all ways of a taker."""
    check_plan(world, plan)
    check_number(taker, len(world[1]))
    return through(world, plan, 1, taker)


def ways_of(world, side, place):
    """A list of the numbers of all ways of a place, the most liked one first."""
    ways = world[2]
    likes = world[side][place][1]
    own = [number for number, way in enumerate(ways) if way[side] == place]
    return sorted(own, key=lambda number: likes.index(ways[number][1 - side]))


def chosen_by(world, side, place, offers):
    """What a place of a side, known to be one, chooses of what is offered on each way."""
    chosen = [0 for way in world[2]]
    left = world[side][place][0]
    for number in ways_of(world, side, place):
        chosen[number] = min(offers[number], world[2][number][2], left)
        left = left - chosen[number]
    return tuple(chosen)


def choice(world, side, place, offers):
    """What a place of a side chooses of what is offered on each way."""
    check_world(world)
    check_place(world, side, place)
    return chosen_by(world, side, place, offers)


def wants_more(world, plan, side, way):
    """Whether the end of a way on this side would have more go on it."""
    place = world[2][way][side]
    if through(world, plan, side, place) < world[side][place][0]:
        return True
    own = ways_of(world, side, place)
    less_liked = own[own.index(way) + 1:]
    return any([plan[number] > 0 for number in less_liked])


def why_kept(world, plan, way):
    """Why a way of a plan is not among leaving; None, if it is."""
    if plan[way] == world[2][way][2]:
        return "full"
    if not wants_more(world, plan, 0, way):
        return "giver"
    if not wants_more(world, plan, 1, way):
        return "taker"
    return None


def first_leaving(world, plan):
    """The first way for which a pair would leave a plan that is known to be one; None without any."""
    for way in range(len(plan)):
        if why_kept(world, plan, way) is None:
            return way
    return None


def is_still(world, plan):
    """Whether no pair would leave a plan that is known to be one."""
    return first_leaving(world, plan) is None


def leaving(world, plan):
    """A rising list of all ways that both ends would have more go on."""
    check_plan(world, plan)
    return [way for way in range(len(plan)) if why_kept(world, plan, way) is None]


def rests(world, plan):
    """Whether no pair would leave the plan."""
    check_plan(world, plan)
    return is_still(world, plan)


def reason(world, plan, way):
    """`full`, `giver` or `taker`, for which a way is not among leaving; None of one that is."""
    check_plan(world, plan)
    check_number(way, len(world[2]))
    return why_kept(world, plan, way)
