"""Promise 0.3: what is handed in is not changed, whatever is told or refused."""

import unittest
from copy import deepcopy

from stillflow import flows, worlds
from stillflow.errors import FlowError
from tests.examples import ODD_THINGS, UNEVEN

PLAN = (1, 4, 0, 2, 2)

# Each function with what it takes; each thing in turn is put in the place of each of these.
CALLS = (
    (worlds.is_world, (UNEVEN,)),
    (worlds.turned, (UNEVEN,)),
    (worlds.turned_plan, (UNEVEN, PLAN)),
    (flows.sent, (UNEVEN, PLAN, 0)),
    (flows.taken, (UNEVEN, PLAN, 1)),
    (flows.choice, (UNEVEN, 0, 2, PLAN)),
    (flows.leaving, (UNEVEN, PLAN)),
    (flows.rests, (UNEVEN, PLAN)),
    (flows.reason, (UNEVEN, PLAN, 3)),
)


def wrong_calls():
    """Each call with one odd thing in it, where any thing may be handed in."""
    for call, handed in CALLS:
        for number, right in enumerate(handed):
            if call is not flows.choice or right != PLAN:
                for thing in ODD_THINGS:
                    yield call, handed[:number] + (thing,) + handed[number + 1:]


class Whole(unittest.TestCase):
    def test_told_twice_the_same(self):
        for call, handed in CALLS:
            self.assertEqual(call(*handed), call(*handed), call.__name__)

    def test_any_thing_is_answered_or_refused(self):
        for call, handed in wrong_calls():
            if call is worlds.is_world:
                self.assertIs(call(*handed), False)
            else:
                with self.assertRaises(FlowError):
                    call(*handed)

    def test_what_is_handed_in_is_not_changed(self):
        for call, handed in wrong_calls():
            ahead = deepcopy(handed)
            try:
                call(*handed)
            except FlowError:
                pass
            self.assertEqual(repr(handed), repr(ahead), call.__name__)

    def test_nothing_is_handed_in_for_is_plan_that_it_changes(self):
        for thing in ODD_THINGS:
            ahead = repr(thing)
            self.assertIs(worlds.is_plan(UNEVEN, thing), False)
            self.assertEqual(repr(thing), ahead)


if __name__ == "__main__":
    unittest.main()
