"""Promise 0.3: what is handed in is not changed, whatever is told or refused, and told lists are new ones."""

import unittest
from copy import deepcopy
from importlib import import_module
from inspect import signature

from stillflow import changes, comparing, costs, finding, flows, listing, papers, texts, walks, walktexts, worlds
from stillflow.desks import Desk
from stillflow.errors import FlowError
from stillflow.floors import Floor
from tests.examples import BARE, CROSSED, ODD_THINGS, TWICE, UNEVEN

PLAN = (1, 4, 0, 2, 2)
OTHER = (3, 2, 0, 0, 4)
ROWS = [(0, 2), (2, 0), (0, 0)]

# Each function with what it takes, and the places in that of which any thing may be handed in.
CALLS = (
    (worlds.is_world, (UNEVEN,), (0,)),
    (worlds.is_plan, (UNEVEN, PLAN), (1,)),
    (worlds.turned, (UNEVEN,), (0,)),
    (worlds.turned_plan, (UNEVEN, PLAN), (0, 1)),
    (flows.sent, (UNEVEN, PLAN, 0), (0, 1, 2)),
    (flows.taken, (UNEVEN, PLAN, 1), (0, 1, 2)),
    (flows.choice, (UNEVEN, 0, 2, PLAN), (0, 1, 2)),
    (flows.leaving, (UNEVEN, OTHER), (0, 1)),
    (flows.rests, (UNEVEN, PLAN), (0, 1)),
    (flows.reason, (UNEVEN, PLAN, 3), (0, 1, 2)),
    (finding.both_ends, (UNEVEN, 1, PLAN), (0, 1)),
    (finding.limits, (UNEVEN,), ()),
    (finding.refused, (TWICE, (3, 2, 2, 2)), ()),
    (finding.lowered, ((3, 2, 2, 2), 0, 2), ()),
    (finding.steps, (TWICE,), ()),
    (finding.capped, (TWICE, ROWS), ()),
    (finding.givers_best, (UNEVEN,), (0,)),
    (finding.takers_best, (UNEVEN,), (0,)),
    (listing.all_plans, (CROSSED,), (0,)),
    (listing.all_rests, (CROSSED,), (0,)),
    (listing.is_single, (UNEVEN,), (0,)),
    (listing.always, (UNEVEN,), (0,)),
    (listing.totals, (UNEVEN,), (0,)),
    (listing.short, (UNEVEN, 1), (0, 1)),
    (comparing.greater, (PLAN, OTHER), ()),
    (comparing.likes, (UNEVEN, 0, 2, PLAN, OTHER), (0, 1, 2, 3, 4)),
    (comparing.all_like, (UNEVEN, 1, PLAN, OTHER), (0, 1, 2, 3)),
    (comparing.together, (UNEVEN, 1, PLAN, OTHER), (0, 1, 2, 3)),
    (comparing.rank, (UNEVEN, 1, 0, PLAN), (0, 1, 2, 3)),
    (changes.with_amount, (UNEVEN, 0, 2, 9), (0, 1, 2, 3)),
    (changes.with_limit, (UNEVEN, 1, 9), (0, 1, 2)),
    (changes.without_way, (UNEVEN, 1), (0, 1)),
    (changes.with_way, (UNEVEN, 1, 1, 9, 1, 2), (0, 1, 2, 3, 4, 5)),
    (papers.paper, (TWICE,), (0,)),
    (papers.is_row, (TWICE, (0, 2)), (0, 1)),
    (papers.holds, (TWICE, ROWS), (0, 1)),
    (papers.caps_of, (TWICE, ROWS), (0, 1)),
    (papers.shows, (TWICE, (0, 2, 0, 2), ROWS), (0, 1, 2)),
    (papers.is_within, (TWICE, (0, 2, 0, 2), (0, 2, 0, 2)), (0, 1)),
    (texts.world_text, (UNEVEN,), (0,)),
    (texts.plan_text, (UNEVEN, PLAN), (0, 1)),
    (texts.read_world, (texts.world_text(UNEVEN),), ()),
    (texts.read_plan, (UNEVEN, texts.plan_text(UNEVEN, PLAN)), (0,)),
    (costs.cost, (UNEVEN, 1, 0, PLAN), (0, 1, 2, 3)),
    (costs.costs, (UNEVEN, PLAN), (0, 1)),
    (costs.fairest, (CROSSED,), (0,)),
    (walks.pushed, (CROSSED, (0, 2, 0, 0), 2), (0, 1, 2)),
    (walks.walk, (CROSSED, (0, 2, 0, 0)), (0, 1)),
    (walks.comes_to_rest, (CROSSED, (0, 2, 0, 0)), (0, 1)),
    (walktexts.walk_text, (UNEVEN, [PLAN, OTHER]), (0, 1)),
    (walktexts.read_walk, (UNEVEN, walktexts.walk_text(UNEVEN, [PLAN, OTHER])), (0,)),
)

# What is answered, and not refused, of an odd thing in this place.
ANSWERED = {
    (worlds.is_world, 0): False,
    (worlds.is_plan, 1): False,
    (papers.is_row, 1): False,
    (papers.holds, 1): False,
    (papers.caps_of, 1): None,
    (papers.shows, 2): False,
    (papers.is_within, 1): False,
}

# The names that the document tells of each file, with how many arguments each takes.
INTERFACE = {
    "worlds": {"is_world": 1, "is_plan": 2, "turned": 1, "turned_plan": 2},
    "flows": {"sent": 3, "taken": 3, "choice": 4, "leaving": 2, "reason": 3, "rests": 2},
    "finding": {
        "both_ends": 3, "limits": 1, "refused": 2, "lowered": 3, "steps": 1, "capped": 2, "givers_best": 1,
        "takers_best": 1,
    },
    "listing": {"all_plans": 1, "all_rests": 1, "always": 1, "totals": 1, "short": 2, "is_single": 1},
    "comparing": {"greater": 2, "together": 4, "rank": 4, "likes": 5, "all_like": 4},
    "changes": {"with_amount": 4, "with_limit": 3, "without_way": 2, "with_way": 6},
    "papers": {"paper": 1, "caps_of": 2, "is_row": 2, "holds": 2, "shows": 3, "is_within": 3},
    "desks": {"Desk": 1},
    "texts": {"world_text": 1, "plan_text": 2, "read_world": 1, "read_plan": 2},
    "costs": {"cost": 4, "costs": 2, "fairest": 1},
    "walks": {"pushed": 3, "walk": 2, "comes_to_rest": 2},
    "floors": {"Floor": 2},
    "walktexts": {"walk_text": 2, "read_walk": 2},
}
METHODS = {
    Desk: {"world": 0, "plan": 0, "set_amount": 3, "set_limit": 2, "close": 1, "undo": 0, "many": 0},
    Floor: {"push": 1, "lay": 1, "settle": 0, "plan": 0, "back": 0, "forth": 0, "counts": 0, "twin": 0},
}

# All that tell lists, with something in them and with nothing.
LISTS = (
    (flows.leaving, (UNEVEN, OTHER)),
    (flows.leaving, (BARE, ())),
    (finding.steps, (TWICE,)),
    (finding.steps, (BARE,)),
    (listing.all_plans, (CROSSED,)),
    (listing.all_plans, (BARE,)),
    (listing.all_rests, (CROSSED,)),
    (listing.all_rests, (BARE,)),
    (listing.always, (UNEVEN,)),
    (listing.always, (CROSSED,)),
    (listing.short, (TWICE, 0)),
    (listing.short, (TWICE, 1)),
    (papers.paper, (TWICE,)),
    (papers.paper, (BARE,)),
    (walks.walk, (CROSSED, (0, 2, 0, 0))),
    (walks.walk, (CROSSED, (0, 2, 2, 0))),
    (walktexts.read_walk, (CROSSED, "0 2 0 0\n")),
    (walktexts.read_walk, (CROSSED, "")),
)


def wrong_calls():
    """Each call with one odd thing in it, where any thing may be handed in, and the place of that."""
    for call, handed, places in CALLS:
        for number in places:
            for thing in ODD_THINGS:
                # A list without rows is a paper, and one without plans a list of plans, like any other.
                if not isinstance(handed[number], list) or thing != []:
                    yield call, handed[:number] + (thing,) + handed[number + 1:], number


def kinds_in(told):
    """The kinds of all parts of what is told, but of a list that holds them."""
    if isinstance(told, (list, tuple)):
        return {kind for part in told for kind in {type(part)} | kinds_in(part)}
    return set()


class Whole(unittest.TestCase):
    def test_told_twice_the_same(self):
        for call, handed, _ in CALLS:
            self.assertEqual(call(*handed), call(*handed), call.__name__)

    def test_any_thing_is_answered_or_refused(self):
        for call, handed, number in wrong_calls():
            if (call, number) in ANSWERED:
                self.assertIs(call(*handed), ANSWERED[call, number], handed)
            else:
                with self.assertRaises(FlowError):
                    call(*handed)

    def test_what_is_handed_in_is_not_changed(self):
        for call, handed, _ in list(wrong_calls()) + list(CALLS):
            ahead = deepcopy(handed)
            try:
                call(*handed)
            except FlowError:
                pass
            self.assertEqual(repr(handed), repr(ahead), call.__name__)

    def test_told_lists_are_new_ones(self):
        for call, handed in LISTS:
            first = call(*handed)
            self.assertIs(type(first), list, call.__name__)
            ahead = deepcopy(first)
            first.append("more")
            first.reverse()
            self.assertEqual(call(*handed), ahead, call.__name__)

    def test_parts_are_tuples_and_whole_numbers(self):
        for call, handed, _ in CALLS:
            self.assertLessEqual(kinds_in(call(*handed)), {int, tuple}, call.__name__)

    def test_all_that_the_interface_names_is_there(self):
        for module, names in INTERFACE.items():
            for name, arguments in names.items():
                there = getattr(import_module(f"stillflow.{module}"), name)
                self.assertEqual(len(signature(there).parameters), arguments, f"{module}.{name}")
        for kind, names in METHODS.items():
            for name, arguments in names.items():
                # One more is the object itself.
                self.assertEqual(len(signature(getattr(kind, name)).parameters), arguments + 1, name)

    def test_a_list_that_is_handed_in_is_not_kept(self):
        rows = list(ROWS)
        caps = finding.capped(TWICE, rows)
        rows.clear()
        self.assertEqual(caps, (0, 2, 0, 2))
        self.assertEqual(finding.capped(TWICE, rows), (3, 2, 2, 2))
        self.assertEqual(papers.caps_of(TWICE, rows), (3, 2, 2, 2))
        rows.extend(ROWS)
        self.assertEqual(papers.caps_of(TWICE, rows), (0, 2, 0, 2))


if __name__ == "__main__":
    unittest.main()
