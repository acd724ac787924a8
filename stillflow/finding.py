"""Plans at rest found by offers: one side offers, the other one refuses, until nothing is refused."""

from stillflow.flows import chosen_by
from stillflow.worlds import check_side, check_world, replaced, turned, turned_plan


def chosen_by_all(world, side, offers):
    """The sums, way by way, of what all places of a side, known to be one, choose of the offers."""
    sums = [0 for way in world[2]]
    for place in range(len(world[side])):
        chosen = chosen_by(world, side, place, offers)
        sums = [before + more for before, more in zip(sums, chosen)]
    return tuple(sums)


def both_ends(world, side, offers):
    """The sums, way by way, of what all places of a side choose of the offers."""
    check_world(world)
    check_side(side)
    return chosen_by_all(world, side, offers)


def limits(world):
    """The tuple of the limits of all ways."""
    return tuple([way[2] for way in world[2]])


def lowered(caps, way, cap):
    """The caps with another one on a way."""
    return replaced(caps, way, cap)


def refused(world, caps):
    """The first way on which the takers choose less than the givers, and how much; None without any."""
    given = chosen_by_all(world, 0, caps)
    kept = chosen_by_all(world, 1, given)
    for way, many in enumerate(kept):
        if many < given[way]:
            return (way, many)
    return None


def steps(world):
    """A list of all refusals as tuples (way, cap), each one told of the caps that those ahead of it left."""
    rows = []
    caps = limits(world)
    row = refused(world, caps)
    while row is not None:
        rows.append(row)
        caps = lowered(caps, row[0], row[1])
        row = refused(world, caps)
    return rows


def capped(world, rows):
    """The tuple of the caps behind a list of tuples (way, cap)."""
    caps = limits(world)
    for way, cap in rows:
        caps = lowered(caps, way, cap)
    return caps


def givers_best(world):
    """The plan at rest that all givers like best."""
    check_world(world)
    # No plan at rest has more on a way than the caps, so no giver could choose better in any.
    return chosen_by_all(world, 0, capped(world, steps(world)))


def takers_best(world):
    """The plan at rest that all takers like best."""
    other = turned(world)
    return turned_plan(other, givers_best(other))
