"""Worlds, plans and odd things that several tests use."""

from itertools import permutations, product

from stillflow.errors import FlowError


def nested(make, depth):
    thing = make([0])
    for _ in range(depth):
        thing = make([thing, None])
    return thing


# One giver, one taker; the limit is the least of the three.
ONE = (((3, (0,)),), ((4, (0,)),), ((0, 0, 2),))

# No ways at all.
BARE = (((0, ()),), ((9, ()),), ())

# Two by two; what the givers like best the takers like least.
CROSSED = (
    ((2, (0, 1)), (2, (1, 0))),
    ((2, (1, 0)), (2, (0, 1))),
    ((0, 0, 2), (0, 1, 2), (1, 0, 2), (1, 1, 2)),
)

# Three by two; not all pairs have a way, and ways take another order when turned.
UNEVEN = (
    ((5, (1, 0)), (0, (0,)), (4, (0, 1))),
    ((3, (2, 0, 1)), (9, (0, 2))),
    ((0, 0, 3), (0, 1, 4), (1, 0, 1), (2, 0, 2), (2, 1, 9)),
)

# Four by four, with all ways, and all numbers as great as may be.
FULL = (
    tuple((9, likes) for likes in ((0, 1, 2, 3), (3, 2, 1, 0), (1, 3, 0, 2), (2, 0, 3, 1))),
    tuple((9, likes) for likes in ((3, 1, 2, 0), (0, 2, 1, 3), (2, 3, 0, 1), (1, 0, 3, 2))),
    tuple((giver, taker, 9) for giver in range(4) for taker in range(4)),
)

# Four by one, a giver and no way among them.
TALL = (
    ((9, (0,)), (0, (0,)), (1, ()), (3, (0,))),
    ((9, (3, 0, 1)),),
    ((0, 0, 9), (1, 0, 1), (3, 0, 4)),
)

WORLDS = (ONE, BARE, CROSSED, UNEVEN, FULL, TALL)

# Things that are neither a world, nor a plan of a world above, nor a number of anything in it.
ODD_THINGS = (
    None, True, False, -1, 16, 10 ** 30, "", "0", "full", "()", [], [0], [0, 0], [None], (None,), (True,),
    ("",), ("0",), ((),), ((0,),), ([],), [()], (-1,), (10,), ((), (), ()), ([], [], []), (None, None, None),
    ("", "", ""), (0,) * 17, list(ONE), [list(part) for part in ONE], nested(tuple, 10), nested(list, 10),
)

# Each list is a plan in all but its kind.
LIST_PLANS = ((ONE, [0]), (BARE, []), (CROSSED, [0, 0, 0, 0]), (UNEVEN, [0, 0, 0, 0, 0]))


def small_worlds():
    """Worlds of two givers and two takers: all choices of ways and likes, with several amounts and limits."""
    pairs = ((0, 0), (0, 1), (1, 0), (1, 1))
    amounts = ((1, 1, 1, 1), (2, 1, 1, 2), (0, 2, 1, 3), (2, 2, 3, 1))
    limits = ((1, 1, 1, 1), (2, 1, 1, 2), (1, 2, 3, 1))
    for chosen in product((False, True), repeat=4):
        kept = [pair for pair, stays in zip(pairs, chosen) if stays]
        for likes in product(*[orders(kept, side, place) for side in (0, 1) for place in (0, 1)]):
            for amount, limit in product(amounts, limits):
                ends = tuple(zip(amount, likes))
                ways = tuple((giver, taker, most) for (giver, taker), most in zip(kept, limit))
                yield (ends[:2], ends[2:], ways)


def orders(pairs, side, place):
    return list(permutations([pair[1 - side] for pair in pairs if pair[side] == place]))


def plans_by_hand(world):
    """All plans of a world, found by trying everything within the limits."""
    givers, takers, ways = world
    for numbers in product(*[range(limit + 1) for _, _, limit in ways]):
        out = [0] * len(givers)
        into = [0] * len(takers)
        for (giver, taker, _), many in zip(ways, numbers):
            out[giver] += many
            into[taker] += many
        if all(many <= giver[0] for many, giver in zip(out, givers)):
            if all(many <= taker[0] for many, taker in zip(into, takers)):
                yield numbers


def assert_refused(test, error, call, *handed):
    """The call is refused with just this class of error."""
    with test.assertRaises(FlowError, msg=f"{call.__name__}{handed!r}") as caught:
        call(*handed)
    test.assertIs(type(caught.exception), error, f"{call.__name__}{handed!r}")
