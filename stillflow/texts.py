"""Worlds and plans as texts, and read back from them.

What is read is written again and held against the text: so a text is taken
only if it is, sign by sign, the writing of what it is read as.
"""

from stillflow.errors import NoText
from stillflow.worlds import check_plan, check_world, is_plan, is_world

DIGITS = "0123456789"


def text_of_lines(lines):
    """The text of a list of lines, each ended by a line feed."""
    return "".join([line + "\n" for line in lines])


def lines_of(text):
    """A list of the lines of a text; NoText, if the last one is not ended by a line feed."""
    lines = text.split("\n")
    if lines[-1] != "":
        raise NoText("the last line is not ended")
    return lines[:-1]


def line_of(words):
    """A line of words and numbers, with a blank between."""
    return " ".join([str(word) for word in words])


def number_of(word):
    """The whole number that a word writes; NoText, if it is not a single digit."""
    # No number in a world or a plan is greater than 9.
    if len(word) != 1 or word not in DIGITS:
        raise NoText("a number is not a single digit")
    return DIGITS.index(word)


def numbers_of(words):
    """The tuple of the whole numbers that words write; NoText, if one of them is no number."""
    return tuple([number_of(word) for word in words])


def end_line(word, end):
    """The line of a giver or a taker, with this word ahead."""
    return line_of([word, end[0]] + list(end[1]))


def written_world(world):
    """The text of a world that is known to be one."""
    lines = [end_line("give", giver) for giver in world[0]]
    lines.extend([end_line("take", taker) for taker in world[1]])
    lines.extend([line_of(["way"] + list(way)) for way in world[2]])
    return text_of_lines(lines)


def flow_line(way, many):
    """The line of a way on which so much goes."""
    giver = way[0]
    taker = way[1]
    return f"{giver} -{many}> {taker}"


def written_plan(world, plan):
    """The text of a plan that is known to be one."""
    return text_of_lines([flow_line(way, many) for way, many in zip(world[2], plan) if many > 0])


def world_text(world):
    """The text of a world."""
    check_world(world)
    return written_world(world)


def plan_text(world, plan):
    """The text of a plan."""
    check_plan(world, plan)
    return written_plan(world, plan)


def rows_of(lines, word):
    """A list of the tuples of numbers in all lines that begin with this word; NoText, where none are."""
    cut = [line.split(" ") for line in lines]
    return [numbers_of(words[1:]) for words in cut if words[0] == word]


def ends_of(lines, word):
    """The tuple of the givers, or takers, in all lines that begin with this word."""
    return tuple([(numbers[0], numbers[1:]) for numbers in rows_of(lines, word) if len(numbers) > 0])


def read_world(text):
    """The world of which the text is the writing."""
    lines = lines_of(text)
    world = (ends_of(lines, "give"), ends_of(lines, "take"), tuple(rows_of(lines, "way")))
    if not is_world(world) or written_world(world) != text:
        raise NoText("this is the text of no world")
    return world


def known_lines(world):
    """A dict of all lines that a plan of the world can have, each with the number of its way and how much goes."""
    known = {}
    for number, way in enumerate(world[2]):
        for many in range(1, way[2] + 1):
            known[flow_line(way, many)] = (number, many)
    return known


def read_plan(world, text):
    """The plan of the world of which the text is the writing."""
    check_world(world)
    known = known_lines(world)
    numbers = [0 for way in world[2]]
    for line in lines_of(text):
        if line not in known:
            raise NoText("this is a line of no way, or of one with nothing or too much on it")
        found = known[line]
        numbers[found[0]] = found[1]
    plan = tuple(numbers)
    if not is_plan(world, plan) or written_plan(world, plan) != text:
        raise NoText("this is the text of no plan of the world")
    return plan
