"""Desks: worlds that are changed step by step, and what goes otherwise behind each change."""

from stillflow.changes import with_amount, with_limit, without_way
from stillflow.errors import Nothing
from stillflow.finding import givers_best
from stillflow.worlds import check_world


def flows_between(world):
    """A dict of how much goes from giver to taker, by tuples of both, in the givers' best plan."""
    return dict([((way[0], way[1]), many) for way, many in zip(world[2], givers_best(world))])


def gone_otherwise(ahead, behind):
    """A rising list of tuples (giver, taker, many) of all between which another much goes in the world behind."""
    before = flows_between(ahead)
    after = flows_between(behind)
    rows = []
    for pair in sorted(set(before) | set(after)):
        many = after.get(pair, 0)
        if many != before.get(pair, 0):
            rows.append((pair[0], pair[1], many))
    return rows


class Desk:
    """A world, with all changes to it that can be taken back."""

    def __init__(self, world):
        check_world(world)
        # The world as it was at first and behind each change: the last one is that of now.
        self.stages = [world]

    def world(self):
        """The world."""
        return self.stages[-1]

    def plan(self):
        """The givers' best plan of the world."""
        return givers_best(self.world())

    def change_to(self, changed):
        """The world becomes another one; told is what goes otherwise."""
        ahead = self.world()
        self.stages.append(changed)
        return gone_otherwise(ahead, changed)

    def set_amount(self, side, place, amount):
        """Another amount at a place of a side; told is what goes otherwise."""
        return self.change_to(with_amount(self.world(), side, place, amount))

    def set_limit(self, way, limit):
        """Another limit of a way; told is what goes otherwise."""
        return self.change_to(with_limit(self.world(), way, limit))

    def close(self, way):
        """A way less; told is what goes otherwise."""
        return self.change_to(without_way(self.world(), way))

    def undo(self):
        """The last change is taken back; told is what goes otherwise."""
        if self.many() == 0:
            raise Nothing("there is nothing to take back")
        ahead = self.stages.pop()
        return gone_otherwise(ahead, self.world())

    def many(self):
        """How many changes can be taken back."""
        return len(self.stages) - 1
