"""Papers: lists of rows (way, cap), of which each can be checked, that bound all plans at rest."""

from stillflow.finding import chosen_by_all, limits, lowered, steps
from stillflow.flows import is_still
from stillflow.worlds import MOST, check_plan, check_world, is_long, is_number, is_plan, is_whole


def paper(world):
    """The steps of the world, as a paper."""
    check_world(world)
    return steps(world)


def has_row_form(world, thing):
    """Whether any thing is a tuple of the number of a way and of a cap, whether it follows or not."""
    return is_long(thing, 2, 2) and is_number(thing[0], len(world[2])) and is_whole(thing[1], 0, MOST)


def is_row(world, thing):
    """Whether any thing is a row of a paper."""
    check_world(world)
    return has_row_form(world, thing)


def follows(world, caps, row):
    """Whether within the caps the givers choose more than the row's cap on its way, and the takers no more."""
    given = chosen_by_all(world, 0, caps)
    kept = chosen_by_all(world, 1, given)
    return kept[row[0]] <= row[1] < given[row[0]]


def caps_behind(world, rows):
    """The caps behind any thing, if it is a list of rows of which each follows; else None."""
    if not isinstance(rows, list) or not all([has_row_form(world, row) for row in rows]):
        return None
    caps = limits(world)
    for row in rows:
        if not follows(world, caps, row):
            return None
        caps = lowered(caps, row[0], row[1])
    return caps


def caps_of(world, rows):
    """The tuple of the caps behind a paper, None, where it does not hold."""
    check_world(world)
    return caps_behind(world, rows)


def holds(world, rows):
    """Whether any thing is a paper of which each row follows."""
    return caps_of(world, rows) is not None


def shows(world, plan, rows):
    """Whether a paper holds, and the plan is at rest, and what the givers choose of the paper's caps."""
    check_plan(world, plan)
    caps = caps_behind(world, rows)
    if caps is None or not is_still(world, plan):
        return False
    return plan == chosen_by_all(world, 0, caps)


def is_within(world, thing, caps):
    """Whether any thing is a plan with no number greater than that of the caps."""
    check_world(world)
    if not is_plan(world, thing) or len(thing) != len(caps):
        return False
    return all([many <= cap for many, cap in zip(thing, caps)])
