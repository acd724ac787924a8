"""Floors: plans that are changed step by step, back and forth."""

from stillflow.errors import Nothing
from stillflow.flows import leaving
from stillflow.walks import pushed, walk
from stillflow.worlds import check_plan


class Floor:
    """A plan of a world, with all steps that can be taken back, or done again."""

    def __init__(self, world, plan):
        check_plan(world, plan)
        self.ground = world
        self.present = plan
        # Each step is a tuple of its word and of the plan that is there when it is taken back, or done again.
        self.done = []
        self.undone = []

    def step_to(self, word, plan):
        """The plan becomes another one, by a step of this word, behind which nothing can be done again."""
        self.done.append((word, self.present))
        self.undone = []
        self.present = plan

    def push(self, way):
        """The plan becomes pushed; told is what leaving tells then."""
        self.step_to("push", pushed(self.ground, self.present, way))
        return leaving(self.ground, self.present)

    def lay(self, plan):
        """Another plan is there; told is what leaving tells then."""
        check_plan(self.ground, plan)
        self.step_to("lay", plan)
        return leaving(self.ground, self.present)

    def settle(self):
        """The plan becomes the last one of its walk; told is how many more plans this had."""
        plans = walk(self.ground, self.present)
        self.step_to("settle", plans[-1])
        return len(plans) - 1

    def plan(self):
        """The plan."""
        return self.present

    def move(self, source, target):
        """The last step of the source goes over to the target, with the plan that it leads to; told is its word."""
        if len(source) == 0:
            raise Nothing("there is no step to take back, or to do again")
        step = source.pop()
        target.append((step[0], self.present))
        self.present = step[1]
        return step[0]

    def back(self):
        """The last step is taken back; told is its word."""
        return self.move(self.done, self.undone)

    def forth(self):
        """The step that was taken back last is done again; told is its word."""
        return self.move(self.undone, self.done)

    def counts(self):
        """A tuple of how many steps can be taken back, and how many done again."""
        return (len(self.done), len(self.undone))

    def twin(self):
        """A floor that is as this one, and goes by itself from then on."""
        other = Floor(self.ground, self.present)
        other.done = list(self.done)
        other.undone = list(self.undone)
        return other
