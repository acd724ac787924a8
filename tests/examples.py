"""Worlds, plans and odd things that several tests use."""

from itertools import permutations, product

from stillflow.errors import FlowError


def nested(make, depth):
    thing = make([0])
    for _ in range(depth):
        thing = make([thing, None])
    return thing


# One giver, one taker; the limit is the least of the three.
ONE = (((3, (0,)),), ((4, (0,)),), ((0, 0, 2),))

# No ways at all.
BARE = (((0, ()),), ((9, ()),), ())

# Two by two; what the givers like best the takers like least.
CROSSED = (
    ((2, (0, 1)), (2, (1, 0))),
    ((2, (1, 0)), (2, (0, 1))),
    ((0, 0, 2), (0, 1, 2), (1, 0, 2), (1, 1, 2)),
)

# Three by two; not all pairs have a way, and ways take another order when turned.
UNEVEN = (
    ((5, (1, 0)), (0, (0,)), (4, (0, 1))),
    ((3, (2, 0, 1)), (9, (0, 2))),
    ((0, 0, 3), (0, 1, 4), (1, 0, 1), (2, 0, 2), (2, 1, 9)),
)

# Four by four, with all ways, and all numbers as great as may be.
FULL = (
    tuple((9, likes) for likes in ((0, 1, 2, 3), (3, 2, 1, 0), (1, 3, 0, 2), (2, 0, 3, 1))),
    tuple((9, likes) for likes in ((3, 1, 2, 0), (0, 2, 1, 3), (2, 3, 0, 1), (1, 0, 3, 2))),
    tuple((giver, taker, 9) for giver in range(4) for taker in range(4)),
)

# Four by one, a giver and no way among them.
TALL = (
    ((9, (0,)), (0, (0,)), (1, ()), (3, (0,))),
    ((9, (3, 0, 1)),),
    ((0, 0, 9), (1, 0, 1), (3, 0, 4)),
)

# Three by three, one each; three plans at rest, of which one has only ways that are in neither of the best ones.
ROUND = (
    tuple((1, likes) for likes in ((0, 1, 2), (1, 2, 0), (2, 0, 1))),
    tuple((1, likes) for likes in ((1, 2, 0), (2, 0, 1), (0, 1, 2))),
    tuple((giver, taker, 1) for giver in range(3) for taker in range(3)),
)

# Three by two; what giver 0 offers is refused twice: first for want of room, then for a giver refused elsewhere.
TWICE = (
    ((3, (0,)), (2, (1, 0)), (2, (1,))),
    ((2, (1, 0)), (2, (2, 1))),
    ((0, 0, 3), (1, 0, 2), (1, 1, 2), (2, 1, 2)),
)

# Two ways are refused at once, and the giver of both likes the second one more.
AT_ONCE = (
    ((1, (0,)), (1, (1,)), (2, (1, 0))),
    ((1, (0, 2)), (1, (1, 2))),
    ((0, 0, 1), (1, 1, 1), (2, 0, 1), (2, 1, 1)),
)

# Three by three, one each; from CIRCLE_WALK[0] a walk goes round through all of these plans, and never comes to rest.
CIRCLE = (
    ((1, (1, 2, 0)), (1, (0, 1)), (1, (2, 0))),
    ((1, (0, 2, 1)), (1, (1, 0)), (1, (0, 2))),
    ((0, 0, 1), (0, 1, 1), (0, 2, 1), (1, 0, 1), (1, 1, 1), (2, 0, 1), (2, 2, 1)),
)
CIRCLE_WALK = [
    (0, 0, 0, 0, 1, 1, 0), (1, 0, 0, 0, 1, 0, 0), (0, 0, 1, 0, 1, 0, 0), (0, 0, 1, 1, 0, 0, 0), (0, 1, 0, 1, 0, 0, 0),
    (0, 1, 0, 0, 0, 1, 0),
]

# A crossed world, and beside it a giver and a taker of whom the taker has room left in all plans at rest.
LEFT = (
    CROSSED[0] + ((3, (2,)),),
    CROSSED[1] + ((4, (2,)),),
    CROSSED[2] + ((2, 2, 3),),
)

# Two crossed worlds side by side, the other one with ones for twos: some of its plans at rest no side likes more.
BLOCKS = (
    ((2, (0, 1)), (2, (1, 0)), (1, (2, 3)), (1, (3, 2))),
    ((2, (1, 0)), (2, (0, 1)), (1, (3, 2)), (1, (2, 3))),
    ((0, 0, 2), (0, 1, 2), (1, 0, 2), (1, 1, 2), (2, 2, 1), (2, 3, 1), (3, 2, 1), (3, 3, 1)),
)

# Four by four; all givers like all takers alike, and all takers all givers.
RIVALS = (
    ((9, (0, 1, 2, 3)),) * 4,
    ((9, (3, 2, 1, 0)),) * 4,
    FULL[2],
)

WORLDS = (ONE, BARE, CROSSED, UNEVEN, FULL, TALL, ROUND, TWICE, LEFT, BLOCKS, RIVALS)

# Things that are neither a world, nor a plan of a world above, nor a number of anything in it.
ODD_THINGS = (
    None, True, False, -1, 16, 10 ** 30, "", "0", "full", "()", [], [0], [0, 0], [None], (None,), (True,),
    ("",), ("0",), ((),), ((0,),), ([],), [()], (-1,), (10,), ((), (), ()), ([], [], []), (None, None, None),
    ("", "", ""), (0,) * 17, list(ONE), [list(part) for part in ONE], nested(tuple, 10), nested(list, 10),
)

# Each list is a plan in all but its kind.
LIST_PLANS = ((ONE, [0]), (BARE, []), (CROSSED, [0, 0, 0, 0]), (UNEVEN, [0, 0, 0, 0, 0]))


def world_of_limits(limits, amount=2):
    """A world with these limits, all in the order of the numbers."""
    pairs = list(product(range(4), repeat=2))[:len(limits)]
    givers = tuple((amount, tuple(taker for each, taker in pairs if each == giver)) for giver in range(4))
    takers = tuple((amount, tuple(giver for giver, each in pairs if each == taker)) for taker in range(4))
    return (givers, takers, tuple(pair + (limit,) for pair, limit in zip(pairs, limits)))


# All with 3000 choices of a number for each way.
JUST_FEW_ENOUGH = tuple(world_of_limits(limits) for limits in ((9, 9, 9, 2), (4, 4, 4, 2, 3, 1), (2, 1, 1, 1, 4, 4, 4)))

# The first has 3024, than which none that is above 3000 is less; the second 3072, the third 4096.
JUST_TOO_MANY = tuple(world_of_limits(limits) for limits in ((6, 7, 8, 5), (2,) + (1,) * 10, (1,) * 12))


def small_worlds():
    """Worlds of two givers and two takers: all choices of ways and likes, with several amounts and limits."""
    pairs = ((0, 0), (0, 1), (1, 0), (1, 1))
    amounts = ((1, 1, 1, 1), (2, 1, 1, 2), (0, 2, 1, 3), (2, 2, 3, 1))
    limits = ((1, 1, 1, 1), (2, 1, 1, 2), (1, 2, 3, 1))
    for chosen in product((False, True), repeat=4):
        kept = [pair for pair, stays in zip(pairs, chosen) if stays]
        for likes in product(*[orders(kept, side, place) for side in (0, 1) for place in (0, 1)]):
            for amount, limit in product(amounts, limits):
                ends = tuple(zip(amount, likes))
                ways = tuple((giver, taker, most) for (giver, taker), most in zip(kept, limit))
                yield (ends[:2], ends[2:], ways)


def orders(pairs, side, place):
    return list(permutations([pair[1 - side] for pair in pairs if pair[side] == place]))


def drawn_numbers(seed):
    """Numbers without an end that look as if drawn by lot, the same ones each time."""
    while True:
        seed = (seed * 1103515245 + 12345) % 2 ** 31
        yield seed // 2 ** 16


def drawn_likes(draw, pairs, side, place):
    others = [pair[1 - side] for pair in pairs if pair[side] == place]
    return tuple(sorted(others, key=lambda _: next(draw)))


def opposed_likes(draw, pairs, givers, taker):
    """Those givers first that like the taker least: so there are often several plans at rest."""
    others = [giver for giver, each in pairs if each == taker]
    return tuple(sorted(others, key=lambda giver: (-givers[giver].index(taker), next(draw))))


def drawn_world(draw):
    """A world with up to three places on each side, with all of its numbers from the draw."""
    sizes = [1 + next(draw) % 3, 1 + next(draw) % 3]
    pairs = [pair for pair in product(range(sizes[0]), range(sizes[1])) if next(draw) % 8]
    most = 1 if len(pairs) > 6 else 2 if len(pairs) > 4 else 3
    givers = [drawn_likes(draw, pairs, 0, giver) for giver in range(sizes[0])]
    if next(draw) % 3:
        takers = [opposed_likes(draw, pairs, givers, taker) for taker in range(sizes[1])]
        amounts = [1 + next(draw) % most] * 6
    else:
        takers = [drawn_likes(draw, pairs, 1, taker) for taker in range(sizes[1])]
        amounts = [next(draw) % (most + 2) for _ in range(6)]
    ways = tuple(pair + (1 + next(draw) % most,) for pair in pairs)
    return (tuple(zip(amounts, givers)), tuple(zip(amounts[3:], takers)), ways)


def drawn_worlds(many):
    draw = drawn_numbers(2026)
    return [drawn_world(draw) for _ in range(many)]


def great_worlds(many):
    """Worlds of four by four with all ways, too great to list their plans."""
    draw = drawn_numbers(5)
    for _ in range(many):
        sides = [
            tuple((next(draw) % 10, tuple(sorted(range(4), key=lambda _: next(draw)))) for _ in range(4))
            for _ in range(2)
        ]
        yield (sides[0], sides[1], tuple(pair + (1 + next(draw) % 9,) for pair in product(range(4), repeat=2)))


def plans_by_hand(world):
    """All plans of a world, found by trying everything within the limits."""
    givers, takers, ways = world
    for numbers in product(*[range(limit + 1) for _, _, limit in ways]):
        out = [0] * len(givers)
        into = [0] * len(takers)
        for (giver, taker, _), many in zip(ways, numbers):
            out[giver] += many
            into[taker] += many
        if all(many <= giver[0] for many, giver in zip(out, givers)):
            if all(many <= taker[0] for many, taker in zip(into, takers)):
                yield numbers


def wants(world, plan, side, way):
    """The words of promise 2.2, by themselves, of one end of a way."""
    ways = world[2]
    place = ways[way][side]
    amount, likes = world[side][place]
    own = {each[1 - side]: many for each, many in zip(ways, plan) if each[side] == place}
    liked_less = likes[likes.index(ways[way][1 - side]) + 1:]
    return sum(own.values()) != amount or any(own[other] for other in liked_less)


def reason_by_hand(world, plan, way):
    if plan[way] == world[2][way][2]:
        return "full"
    if not wants(world, plan, 0, way):
        return "giver"
    if not wants(world, plan, 1, way):
        return "taker"
    return None


def rests_by_hand(world):
    """All plans of a world at rest, found by going through all plans."""
    return [
        plan for plan in plans_by_hand(world)
        if all(reason_by_hand(world, plan, way) is not None for way in range(len(plan)))
    ]


def choice_by_hand(world, side, place, offers):
    """What a place has on each of its liked ones, most liked first, that is by Python's order the greatest."""
    amount, likes = world[side][place]
    mosts = {way[1 - side]: min(offer, way[2]) for way, offer in zip(world[2], offers) if way[side] == place}
    tried = product(*[range(mosts[other] + 1) for other in likes])
    return max(numbers for numbers in tried if sum(numbers) <= amount)


def both_ends_by_hand(world, side, offers):
    found = [0] * len(world[2])
    for place, (_, likes) in enumerate(world[side]):
        for other, many in zip(likes, choice_by_hand(world, side, place, offers)):
            pair = (place, other) if side == 0 else (other, place)
            found[[way[:2] for way in world[2]].index(pair)] += many
    return tuple(found)


def rank_by_hand(world, side, place, plan):
    own = {way[1 - side]: many for way, many in zip(world[2], plan) if way[side] == place}
    return tuple(own[other] for other in world[side][place][1])


def likes_by_hand(world, side, place, one, other):
    both = tuple(max(pair) for pair in zip(one, other))
    return choice_by_hand(world, side, place, both) == rank_by_hand(world, side, place, one)


def best_by_hand(world, side):
    """All plans at rest that each place of a side would choose with any other one on offer, too."""
    found = rests_by_hand(world)
    return [
        one for one in found
        if all(likes_by_hand(world, side, place, one, other) for other in found for place in range(len(world[side])))
    ]


def leaving_by_hand(world, plan):
    return [way for way in range(len(plan)) if reason_by_hand(world, plan, way) is None]


def cost_by_hand(world, side, place, plan):
    """What each one of the amount of a place costs it, one by one, added up."""
    amount, likes = world[side][place]
    each = [[number] * many for number, many in enumerate(rank_by_hand(world, side, place, plan))]
    going = [number for same in each for number in same]
    return sum(going + [len(likes)] * (amount - len(going)))


def costs_by_hand(world, plan):
    return tuple(sum(cost_by_hand(world, side, place, plan) for place in range(len(world[side]))) for side in (0, 1))


def pushed_by_hand(world, plan, way):
    """The words of promise 11.1, by themselves."""
    much = {each[:2]: many for each, many in zip(world[2], plan)}
    giver, taker, _ = world[2][way]
    gives_up = []
    if sum(many for (place, _), many in much.items() if place == giver) == world[0][giver][0]:
        gives_up.append((giver, [other for other in world[0][giver][1] if much[giver, other]][-1]))
    if sum(many for (_, place), many in much.items() if place == taker) == world[1][taker][0]:
        gives_up.append(([other for other in world[1][taker][1] if much[other, taker]][-1], taker))
    much[giver, taker] += 1
    for pair in gives_up:
        much[pair] -= 1
    return tuple(much[each[:2]] for each in world[2])


def walk_by_hand(world, plan):
    found = [plan]
    while leaving_by_hand(world, found[-1]):
        further = pushed_by_hand(world, found[-1], leaving_by_hand(world, found[-1])[0])
        if further in found:
            break
        found.append(further)
    return found


def wrong_writings(text, signs):
    """All texts with one of the signs more, a sign less, a sign for another one, or two neighbours exchanged."""
    found = {}
    for place in range(len(text) + 1):
        ahead, behind = text[:place], text[place:]
        for sign in signs:
            found[ahead + sign + behind] = True
            found[ahead + sign + behind[1:]] = True
        found[ahead + behind[1:]] = True
        found[ahead + behind[1:2] + behind[:1] + behind[2:]] = True
    found.pop(text, None)
    return list(found)


def assert_refused(test, error, call, *handed):
    """The call is refused with just this class of error."""
    with test.assertRaises(FlowError, msg=f"{call.__name__}{handed!r}") as caught:
        call(*handed)
    test.assertIs(type(caught.exception), error, f"{call.__name__}{handed!r}")
