"""All refusals: one class for each, all of them under FlowError."""


class FlowError(ValueError):
    """Any refusal."""


class NoWorld(FlowError):
    """What was handed in as a world is none."""


class NoPlan(FlowError):
    """What was handed in as a plan is none of this world."""


class NoPlace(FlowError):
    """No giver, taker, side or way has this number, or it can be no amount, no limit, no place in likes."""


class TooMany(FlowError):
    """There are too many plans to list them."""


class Nothing(FlowError):
    """There is nothing to take back, or to do again."""


class NoText(FlowError):
    """The text is not the writing of anything."""
