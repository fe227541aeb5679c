"""What would be otherwise by other wishes."""

import copy
import random
import unittest

from callboard.board import Board, picture
from callboard.deeds import do
from callboard.errors import NoDeed
from callboard.looker import choices
from callboard.plans import Plan
from callboard.texts import show_plan
from callboard.whatif import what_if

PHONES = [("a", 2, 5), ("b", 1, 4), ("c", 1, 3), ("d", 1, 2), ("e", 1, 9)]
GROUPS = [("g", "all", ("b", "c")), ("t", "turns", ("d", "c", "b"))]


def plan_of(*wishes):
    """A Plan of these wishes, told bare where they are on, or as a pair."""
    pairs = [wish if isinstance(wish[0], bool) else (True, wish) for wish in wishes]
    return Plan(PHONES, GROUPS, pairs)


class WhatIf(unittest.TestCase):
    def check(self, plan, deeds, switched, places, hour=12):
        handed = (show_plan(plan), list(plan.on), copy.deepcopy(deeds), list(switched))
        told = what_if(plan, hour, deeds, switched)
        self.assertEqual(told, places)
        self.assertIsInstance(told, list)
        self.assertEqual((show_plan(plan), plan.on, deeds, switched), handed)


class NothingOtherwise(WhatIf):
    def test_no_deeds(self):
        self.check(plan_of(("always", "b", "c")), [], [0], [])
        self.check(plan_of(), [], [], [])

    def test_nothing_switched(self):
        deeds = [("call", "a", "b"), ("call", "d", "c"), ("answer", "c", 0), ("hang", "zz", 0), ("turn",), ("off", 0)]
        self.check(plan_of(("always", "b", "c"), ("wait", "c")), deeds, [], [])

    def test_a_wish_that_is_never_asked(self):
        plan = plan_of(("always", "b", "c"), (False, ("bar", "e", ("a",))))
        self.check(plan, [("call", "a", "b"), ("answer", "c", 0), ("turn",)], [1], [])

    def test_a_wish_that_never_acts(self):
        plan = plan_of(("always", "b", "c"), ("always", "b", "d"))
        self.check(plan, [("call", "a", "b"), ("answer", "c", 0), ("turn",)], [1], [])

    def test_unlike_asks_alone_are_nothing(self):
        plan = plan_of(("always", "b", "c"), (False, ("night", "b", "c", 1, 0)))
        self.check(plan, [("call", "a", "b"), ("answer", "c", 0), ("turn",), ("call", "d", "b")], [0, 1], [])
        self.check(plan, [("call", "a", "b"), ("answer", "c", 0), ("turn",), ("call", "d", "b")], [1], [])

    def test_wishes_on_alone_are_nothing(self):
        self.check(plan_of(("always", "b", "c")), [("turn",), ("turn",), ("call", "a", "d")], [0], [])

    def test_deeds_that_are_refused_on_both(self):
        deeds = [("answer", "b", 0), ("call", "g", "a"), ("hang", "a", 3), ("on", 7)]
        self.check(plan_of(("always", "b", "c")), deeds, [0], [])


class Otherwise(WhatIf):
    def test_from_the_first_deed_on(self):
        plan = plan_of(("always", "b", "c"))
        self.check(plan, [("call", "a", "b"), ("turn",), ("hang", "a", 0)], [0], [0, 1, 2])

    def test_from_some_deed_on(self):
        plan = plan_of(("always", "b", "c"))
        deeds = [("turn",), ("call", "a", "d"), ("answer", "d", 0), ("call", "e", "b"), ("turn",), ("call", "d", "d")]
        self.check(plan, deeds, [0], [3, 4, 5])

    def test_off_to_on(self):
        plan = plan_of((False, ("always", "b", "c")))
        self.check(plan, [("turn",), ("call", "a", "b"), ("turn",)], [0], [1, 2])

    def test_on_to_off_and_off_to_on_at_once(self):
        plan = plan_of(("always", "b", "c"), (False, ("always", "b", "d")), ("wait", "c"))
        self.check(plan, [("turn",), ("call", "a", "b")], [1, 0], [1])
        self.check(plan, [("turn",), ("call", "a", "b")], [1], [])
        self.check(plan, [("turn",), ("call", "a", "b")], [0], [1])

    def test_the_last_of_many_wishes(self):
        plan = plan_of(*[("bar", "e", ("d",))] * 15, ("shut", "b", ("c",)))
        deeds = [("call", "a", "b"), ("hang", "a", 0), ("call", "c", "b")]
        self.check(plan, deeds, [15], [2])
        self.check(plan, deeds, list(range(15)), [])

    def test_a_night_by_the_hour(self):
        plan = plan_of(("night", "b", "c", 14, 15))
        deeds = []
        for number in range(3):
            deeds += [("call", "a", "b"), ("hang", "a", number), ("turn",)]
        self.check(plan, deeds, [0], [6, 7, 8])
        self.check(plan, deeds, [0], [3, 4, 5, 6, 7, 8], 13)
        self.check(plan, deeds, [0], [0, 1, 2, 3, 4, 5, 6, 7, 8], 14)
        self.check(plan, deeds, [0], [], 15)

    def test_a_silent_wish(self):
        plan = plan_of((False, ("silent", "b", "c", 2)))
        self.check(plan, [("call", "a", "b"), ("turn",), ("turn",), ("answer", "b", 0)], [0], [2, 3])

    def test_a_wait_and_a_break(self):
        plan = plan_of(("wait", "b"), ("breaks", "e"))
        deeds = [("call", "a", "b"), ("answer", "b", 0), ("call", "e", "b"), ("turn",)]
        self.check(plan, deeds, [1], [])
        self.check(plan, deeds, [0], [2, 3])
        self.check(plan, deeds, [0, 1], [2, 3])

    def test_since_of_a_call(self):
        # The first call is on another phone, where it rings on while nothing else is unlike.
        plan = plan_of(("busy", "b", "c"), ("silent", "c", "d", 1))
        deeds = [("call", "a", "c"), ("turn",), ("turn",)]
        self.check(plan, deeds, [0], [])
        self.check(plan, deeds, [1], [1, 2])


class RefusedOnOne(WhatIf):
    def test_on_the_first_alone(self):
        # Barred, a may call again; else it calls already.
        plan = plan_of(("bar", "a", ("b",)))
        self.check(plan, [("call", "a", "b"), ("call", "a", "c"), ("answer", "c", 1)], [0], [0, 1, 2])

    def test_on_the_other_alone(self):
        plan = plan_of((False, ("bar", "a", ("b",))))
        self.check(plan, [("call", "d", "e"), ("call", "a", "b"), ("answer", "b", 1), ("hold", "a", 1)], [0], [1, 2, 3])

    def test_numbers_are_each_boards_own(self):
        # Where d is bound, its call is refused, so that call 1 is another one there.
        plan = plan_of(("always", "b", "d"))
        deeds = [("call", "a", "b"), ("answer", "d", 0), ("call", "d", "e"), ("call", "c", "e"), ("hang", "c", 1)]
        self.check(plan, deeds, [0], [0, 1, 2, 3, 4])

    def test_a_switch_is_refused_on_one(self):
        plan = plan_of(("always", "b", "c"))
        # Off already on the other, so both are alike from here on.
        self.check(plan, [("off", 0), ("call", "a", "b"), ("turn",)], [0], [])
        self.check(plan, [("on", 0), ("call", "a", "b"), ("turn",)], [0], [])
        self.check(plan, [("turn",), ("on", 0), ("off", 0), ("call", "a", "b"), ("turn",)], [0], [])

    def test_on_and_off_of_another_wish(self):
        plan = plan_of(("always", "b", "c"), ("always", "b", "d"), ("wait", "e"))
        deeds = [("off", 0), ("call", "a", "b"), ("on", 0), ("off", 2), ("call", "e", "b")]
        self.check(plan, deeds, [1], [1, 2, 3, 4])
        self.check(plan, deeds, [2], [])

    def test_on_behind_an_unlike_call(self):
        plan = plan_of((False, ("always", "b", "c")))
        deeds = [("call", "a", "b"), ("hang", "a", 0), ("on", 0), ("call", "a", "b")]
        self.check(plan, deeds, [0], [0, 1, 2, 3])


class Own(WhatIf):
    def test_the_told_list_is_the_askers_own(self):
        plan, deeds = plan_of(("always", "b", "c")), [("call", "a", "b")]
        told = what_if(plan, 12, deeds, [0])
        told.append(7)
        self.assertEqual(what_if(plan, 12, deeds, [0]), [0])
        self.assertIsNot(what_if(plan, 12, [], []), what_if(plan, 12, [], []))

    def test_the_plan_may_be_used_on(self):
        plan = plan_of(("always", "b", "c"))
        what_if(plan, 12, [("call", "a", "b"), ("off", 0)], [0])
        self.assertEqual(do(Board(plan, 12), ("call", "a", "b"))[-1], ("rings", 0, ("c",)))


def unlike_places(parts, hour, deeds, switched):
    """As point 22 tells it, with a plan whose pairs are turned over by hand."""
    phones, groups, wishes = parts
    turned = [(not on if i in switched else on, wish) for i, (on, wish) in enumerate(wishes)]
    boards = [Board(Plan(phones, groups, pairs), hour) for pairs in (wishes, turned)]
    places = []
    for place, deed in enumerate(deeds):
        for board in boards:
            try:
                do(board, deed)
            except NoDeed:
                pass
        if picture(boards[0])[1] != picture(boards[1])[1]:
            places.append(place)
    return places


class Rows(unittest.TestCase):
    def test_as_told(self):
        wishes = [
            (True, ("always", "b", "c")), (False, ("busy", "c", "d")), (True, ("wait", "c")), (True, ("breaks", "e")),
            (False, ("silent", "t", "g", 2)), (True, ("night", "g", "a", 14, 18)), (False, ("bar", "d", ("b", "e"))),
            (True, ("shut", "a", ("d",))),
        ]
        sizes = set()
        for number in range(60):
            chance = random.Random(f"what if {number}")
            board, deeds = Board(Plan(PHONES, GROUPS, wishes), 12), []
            for again in range(30):
                told = choices(board) + [("on", chance.randint(0, 8)), ("off", chance.randint(0, 8)), ("turn",)]
                deed = chance.choice([deed for deed in told if deed[0] != "call"] if chance.random() < 0.6 else told)
                deeds.append(deed)
                try:
                    do(board, deed)
                except NoDeed:
                    pass
            switched = chance.sample(range(8), chance.randint(0, 3))
            told = what_if(Plan(PHONES, GROUPS, wishes), 12, deeds, switched)
            self.assertEqual(told, unlike_places((PHONES, GROUPS, wishes), 12, deeds, switched))
            sizes.add(len(told))
        self.assertGreater(len(sizes), 10)


if __name__ == "__main__":
    unittest.main()
