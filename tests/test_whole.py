"""Promise 0.3: what is handed in is not changed, whatever is told or refused, and told lists are new ones."""

import unittest
from copy import deepcopy

from stillflow import changes, comparing, finding, flows, listing, papers, texts, worlds
from stillflow.errors import FlowError
from tests.examples import BARE, CROSSED, ODD_THINGS, TWICE, UNEVEN

PLAN = (1, 4, 0, 2, 2)
OTHER = (3, 2, 0, 0, 4)
ROWS = [(0, 2), (2, 0), (0, 0)]

# Each function with what it takes, and the places in that of which any thing may be handed in.
CALLS = (
    (worlds.is_world, (UNEVEN,), (0,)),
    (worlds.is_plan, (UNEVEN, PLAN), (1,)),
    (worlds.turned, (UNEVEN,), (0,)),
    (worlds.turned_plan, (UNEVEN, PLAN), (0, 1)),
    (flows.sent, (UNEVEN, PLAN, 0), (0, 1, 2)),
    (flows.taken, (UNEVEN, PLAN, 1), (0, 1, 2)),
    (flows.choice, (UNEVEN, 0, 2, PLAN), (0, 1, 2)),
    (flows.leaving, (UNEVEN, OTHER), (0, 1)),
    (flows.rests, (UNEVEN, PLAN), (0, 1)),
    (flows.reason, (UNEVEN, PLAN, 3), (0, 1, 2)),
    (finding.both_ends, (UNEVEN, 1, PLAN), (0, 1)),
    (finding.limits, (UNEVEN,), ()),
    (finding.refused, (TWICE, (3, 2, 2, 2)), ()),
    (finding.lowered, ((3, 2, 2, 2), 0, 2), ()),
    (finding.steps, (TWICE,), ()),
    (finding.capped, (TWICE, ROWS), ()),
    (finding.givers_best, (UNEVEN,), (0,)),
    (finding.takers_best, (UNEVEN,), (0,)),
    (listing.all_plans, (CROSSED,), (0,)),
    (listing.all_rests, (CROSSED,), (0,)),
    (listing.is_single, (UNEVEN,), (0,)),
    (listing.always, (UNEVEN,), (0,)),
    (listing.totals, (UNEVEN,), (0,)),
    (listing.short, (UNEVEN, 1), (0, 1)),
    (comparing.greater, (PLAN, OTHER), ()),
    (comparing.likes, (UNEVEN, 0, 2, PLAN, OTHER), (0, 1, 2, 3, 4)),
    (comparing.all_like, (UNEVEN, 1, PLAN, OTHER), (0, 1, 2, 3)),
    (comparing.together, (UNEVEN, 1, PLAN, OTHER), (0, 1, 2, 3)),
    (comparing.rank, (UNEVEN, 1, 0, PLAN), (0, 1, 2, 3)),
    (changes.with_amount, (UNEVEN, 0, 2, 9), (0, 1, 2, 3)),
    (changes.with_limit, (UNEVEN, 1, 9), (0, 1, 2)),
    (changes.without_way, (UNEVEN, 1), (0, 1)),
    (changes.with_way, (UNEVEN, 1, 1, 9, 1, 2), (0, 1, 2, 3, 4, 5)),
    (papers.paper, (TWICE,), (0,)),
    (papers.is_row, (TWICE, (0, 2)), (0, 1)),
    (papers.holds, (TWICE, ROWS), (0, 1)),
    (papers.caps_of, (TWICE, ROWS), (0, 1)),
    (papers.shows, (TWICE, (0, 2, 0, 2), ROWS), (0, 1, 2)),
    (papers.is_within, (TWICE, (0, 2, 0, 2), (0, 2, 0, 2)), (0, 1)),
    (texts.world_text, (UNEVEN,), (0,)),
    (texts.plan_text, (UNEVEN, PLAN), (0, 1)),
    (texts.read_world, (texts.world_text(UNEVEN),), ()),
    (texts.read_plan, (UNEVEN, texts.plan_text(UNEVEN, PLAN)), (0,)),
)

# What is answered, and not refused, of an odd thing in this place.
ANSWERED = {
    (worlds.is_world, 0): False,
    (worlds.is_plan, 1): False,
    (papers.is_row, 1): False,
    (papers.holds, 1): False,
    (papers.caps_of, 1): None,
    (papers.shows, 2): False,
    (papers.is_within, 1): False,
}

# All that tell lists, with something in them and with nothing.
LISTS = (
    (flows.leaving, (UNEVEN, OTHER)),
    (flows.leaving, (BARE, ())),
    (finding.steps, (TWICE,)),
    (finding.steps, (BARE,)),
    (listing.all_plans, (CROSSED,)),
    (listing.all_plans, (BARE,)),
    (listing.all_rests, (CROSSED,)),
    (listing.all_rests, (BARE,)),
    (listing.always, (UNEVEN,)),
    (listing.always, (CROSSED,)),
    (listing.short, (TWICE, 0)),
    (listing.short, (TWICE, 1)),
    (papers.paper, (TWICE,)),
    (papers.paper, (BARE,)),
)


def wrong_calls():
    """Each call with one odd thing in it, where any thing may be handed in, and the place of that."""
    for call, handed, places in CALLS:
        for number in places:
            for thing in ODD_THINGS:
                # A list without rows is a paper like any other.
                if handed[number] != ROWS or thing != []:
                    yield call, handed[:number] + (thing,) + handed[number + 1:], number


def kinds_in(told):
    """The kinds of all parts of what is told, but of a list that holds them."""
    if isinstance(told, (list, tuple)):
        return {kind for part in told for kind in {type(part)} | kinds_in(part)}
    return set()


class Whole(unittest.TestCase):
    def test_told_twice_the_same(self):
        for call, handed, _ in CALLS:
            self.assertEqual(call(*handed), call(*handed), call.__name__)

    def test_any_thing_is_answered_or_refused(self):
        for call, handed, number in wrong_calls():
            if (call, number) in ANSWERED:
                self.assertIs(call(*handed), ANSWERED[call, number], handed)
            else:
                with self.assertRaises(FlowError):
                    call(*handed)

    def test_what_is_handed_in_is_not_changed(self):
        for call, handed, _ in list(wrong_calls()) + list(CALLS):
            ahead = deepcopy(handed)
            try:
                call(*handed)
            except FlowError:
                pass
            self.assertEqual(repr(handed), repr(ahead), call.__name__)

    def test_told_lists_are_new_ones(self):
        for call, handed in LISTS:
            first = call(*handed)
            self.assertIs(type(first), list, call.__name__)
            ahead = deepcopy(first)
            first.append("more")
            first.reverse()
            self.assertEqual(call(*handed), ahead, call.__name__)

    def test_parts_are_tuples_and_whole_numbers(self):
        for call, handed, _ in CALLS:
            self.assertLessEqual(kinds_in(call(*handed)), {int, tuple}, call.__name__)

    def test_a_list_that_is_handed_in_is_not_kept(self):
        rows = list(ROWS)
        caps = finding.capped(TWICE, rows)
        rows.clear()
        self.assertEqual(caps, (0, 2, 0, 2))
        self.assertEqual(finding.capped(TWICE, rows), (3, 2, 2, 2))
        self.assertEqual(papers.caps_of(TWICE, rows), (3, 2, 2, 2))
        rows.extend(ROWS)
        self.assertEqual(papers.caps_of(TWICE, rows), (0, 2, 0, 2))


if __name__ == "__main__":
    unittest.main()
