"""The least row of deeds by which two wishes clash."""

import random
import unittest

from callboard.board import Board
from callboard.deeds import do, refusal
from callboard.looker import looked
from callboard.plans import Plan
from callboard.texts import show_plan

PHONES = [("a", 1, 5), ("b", 1, 4), ("c", 1, 3), ("d", 1, 2)]
NONE = ("none",)


def plan_of(*wishes, phones=PHONES, groups=()):
    """A Plan of these wishes, told bare where they are on, or as a pair."""
    pairs = [wish if isinstance(wish[0], bool) else (True, wish) for wish in wishes]
    return Plan(list(phones), list(groups), pairs)


class Looking(unittest.TestCase):
    def check(self, plan, deeds, triple, hour=12):
        """The clash is told for as many deeds and for more, and none for fewer."""
        before = show_plan(plan)
        for most in range(4):
            told = looked(plan, hour, most)
            self.assertIsInstance(told, tuple)
            if most < len(deeds):
                self.assertEqual(told, NONE)
            else:
                self.assertEqual(told, ("clash", deeds, triple))
                self.assertIsInstance(told[1], list)
        self.assertEqual(show_plan(plan), before)

    def check_none(self, plan, hour=12, most=3):
        for number in range(most + 1):
            self.assertEqual(looked(plan, hour, number), NONE)


class ByOneDeed(Looking):
    def test_two_always(self):
        self.check(plan_of(("always", "b", "c"), ("always", "b", "d")), [("call", "a", "b")], ("b", 0, 1))

    def test_a_bar_and_an_always(self):
        self.check(plan_of(("always", "b", "c"), ("bar", "c", ("a", "b"))), [("call", "c", "b")], ("b", 0, 1))

    def test_a_shut_and_an_always(self):
        self.check(plan_of(("shut", "a", ("c", "b")), ("always", "a", "d")), [("call", "b", "a")], ("a", 0, 1))

    def test_a_night_in_its_hours(self):
        plan = plan_of(("night", "b", "c", 22, 6), ("always", "b", "d"))
        for hour in (22, 23, 0, 5):
            self.check(plan, [("call", "a", "b")], ("b", 0, 1), hour)

    def test_a_phone_that_calls_itself_is_busy(self):
        self.check(plan_of(("busy", "b", "c"), ("shut", "b", ("b",))), [("call", "b", "b")], ("b", 0, 1))

    def test_a_group_of_the_caller_alone_is_busy(self):
        plan = plan_of(("busy", "g", "b"), ("bar", "c", ("g",)), groups=[("g", "all", ("c",))])
        self.check(plan, [("call", "c", "g")], ("g", 0, 1))

    def test_behind_another_name(self):
        plan = plan_of(("always", "d", "b"), ("bar", "c", ("b",)), ("always", "b", "a"), (False, ("always", "d", "a")))
        self.check(plan, [("call", "c", "b")], ("b", 1, 2))
        plan = plan_of(("always", "a", "d"), ("bar", "c", ("d",)), ("always", "d", "b"))
        self.check(plan, [("call", "c", "a")], ("d", 1, 2))

    def test_the_least_deed_by_caller_and_then_by_name(self):
        phones = [("d", 1, 0), ("ab", 1, 0), ("a", 1, 0), ("b", 1, 0)]
        wishes = [("always", "d", "a"), ("always", "d", "b"), ("always", "b", "a"), ("always", "b", "d")]
        plan = plan_of(*wishes, phones=phones)
        self.check(plan, [("call", "a", "b")], ("b", 2, 3))
        wishes = [("bar", "b", ("a",)), ("bar", "ab", ("d",)), ("always", "a", "d"), ("night", "d", "b", 1, 0)]
        plan = plan_of(*wishes, phones=phones)
        self.check(plan, [("call", "ab", "a")], ("d", 1, 3))

    def test_the_first_clash_of_several(self):
        plan = plan_of(
            ("always", "c", "d"), ("always", "b", "c"), ("night", "b", "c", 1, 0), ("bar", "a", ("b", "c")),
            ("shut", "c", ("a",)),
        )
        self.check(plan, [("call", "a", "b")], ("b", 1, 3))

    def test_the_first_clash_is_by_targets_ahead_of_numbers(self):
        plan = plan_of(("always", "c", "d"), ("always", "c", "b"), ("always", "a", "c"), ("always", "a", "d"))
        self.check(plan, [("call", "a", "a")], ("a", 2, 3))

    def test_all_that_come_to_a_group(self):
        plan = plan_of(("always", "g", "a"), ("always", "g", "b"), groups=[("g", "turns", ("a", "b"))])
        self.check(plan, [("call", "a", "g")], ("g", 0, 1))

    def test_a_ring_is_no_hindrance(self):
        plan = plan_of(("always", "a", "b"), ("always", "b", "a"), ("always", "b", "c"))
        self.check(plan, [("call", "a", "a")], ("b", 1, 2))


class ByTwoDeeds(Looking):
    def test_a_busy_name(self):
        self.check(plan_of(("busy", "b", "d"), ("wait", "b")), [("call", "a", "b"), ("call", "c", "b")], ("b", 0, 1))

    def test_a_caller_is_busy_too(self):
        self.check(plan_of(("busy", "a", "d"), ("wait", "a")), [("call", "a", "a"), ("call", "b", "a")], ("a", 0, 1))
        plan = plan_of(("busy", "a", "d"), ("wait", "a"), ("bar", "a", ("a", "d")))
        self.check(plan, [("call", "a", "a")], ("a", 0, 2))
        plan = plan_of(("busy", "a", "d"), ("wait", "a"), ("shut", "d", ("a",)))
        self.check(plan, [("call", "a", "b"), ("call", "c", "a")], ("a", 0, 1))

    def test_a_busy_group(self):
        groups = [("g", "all", ("b", "c"))]
        plan = plan_of(("busy", "g", "d"), ("bar", "a", ("g",)), groups=groups)
        self.check(plan, [("call", "b", "c"), ("call", "a", "g")], ("g", 0, 1))

    def test_the_next_hour(self):
        plan = plan_of(("night", "b", "c", 13, 14), ("always", "b", "d"))
        self.check(plan, [("turn",), ("call", "a", "b")], ("b", 0, 1), 12)

    def test_the_hour_behind_midnight(self):
        plan = plan_of(("night", "b", "c", 0, 1), ("always", "b", "d"))
        self.check(plan, [("turn",), ("call", "a", "b")], ("b", 0, 1), 23)

    def test_silent_wishes(self):
        plan = plan_of(("silent", "b", "c", 1), ("silent", "b", "d", 1))
        self.check(plan, [("call", "a", "b"), ("turn",)], ("b", 0, 1))

    def test_behind_a_silent_wish(self):
        plan = plan_of(
            ("silent", "b", "c", 1), ("shut", "c", ("d",)), ("bar", "d", ("c",)), ("night", "c", "a", 13, 12),
        )
        self.check(plan, [("call", "d", "b"), ("turn",)], ("c", 1, 3))

    def test_calls_ahead_of_turns(self):
        # By the turn alone the night begins; but a call that is made busy comes first.
        plan = plan_of(("night", "b", "c", 13, 14), ("wait", "b"), ("busy", "b", "d"))
        self.check(plan, [("call", "a", "b"), ("call", "c", "b")], ("b", 1, 2))

    def test_the_lesser_of_two_rows(self):
        plan = plan_of(("busy", "d", "a"), ("wait", "d"), ("busy", "c", "a"), ("wait", "c"))
        self.check(plan, [("call", "a", "c"), ("call", "b", "c")], ("c", 2, 3))

    def test_a_lesser_row_may_begin_with_a_call_that_ends_at_once(self):
        plan = plan_of(("bar", "a", ("a", "b", "c")), ("busy", "b", "c"), ("wait", "b"), phones=PHONES[:3])
        self.check(plan, [("call", "b", "a"), ("call", "c", "b")], ("b", 1, 2))


class ByThreeDeeds(Looking):
    def test_a_phone_with_two_lines(self):
        phones = [("a", 1, 0), ("b", 2, 0), ("c", 1, 0), ("d", 1, 0)]
        plan = plan_of(("busy", "b", "d"), ("wait", "b"), phones=phones)
        # b's call of itself goes on to d; one of a would be engaged, and so take no line.
        self.check(plan, [("call", "a", "b"), ("call", "b", "b"), ("call", "c", "b")], ("b", 0, 1))

    def test_two_turns(self):
        plan = plan_of(("night", "b", "c", 14, 16), ("always", "b", "d"))
        self.check(plan, [("turn",), ("turn",), ("call", "a", "b")], ("b", 0, 1))
        self.check(plan, [("turn",), ("call", "a", "b")], ("b", 0, 1), 13)
        self.check(plan, [("call", "a", "b")], ("b", 0, 1), 14)
        self.check_none(plan, 16)

    def test_silent_for_two_turns(self):
        plan = plan_of(("silent", "b", "c", 2), ("silent", "b", "d", 2))
        self.check(plan, [("call", "a", "b"), ("turn",), ("turn",)], ("b", 0, 1))
        plan = plan_of(("silent", "b", "c", 1), ("silent", "c", "d", 1), ("silent", "c", "a", 1))
        self.check(plan, [("call", "a", "c"), ("turn",)], ("c", 1, 2))

    def test_a_talk(self):
        plan = plan_of(("wait", "b"), ("breaks", "a"), phones=PHONES[:3])
        self.check(plan, [("call", "b", "c"), ("answer", "c", 0), ("call", "a", "b")], ("b", 0, 1))

    def test_a_talk_that_is_answered_by_the_name(self):
        # No call of b's own comes to anyone, so that b talks only where it is called.
        plan = plan_of(("wait", "b"), ("breaks", "a"), ("bar", "b", ("b", "c", "a")), phones=PHONES[:3])
        self.check(plan, [("call", "c", "b"), ("answer", "b", 0), ("call", "a", "b")], ("b", 0, 1))

    def test_a_talk_of_less_rank_alone(self):
        phones = [("a", 1, 5), ("b", 1, 5), ("c", 1, 3), ("d", 1, 2), ("e", 1, 9)]
        plan = plan_of(("wait", "c"), ("breaks", "a"), phones=phones)
        self.check(plan, [("call", "c", "d"), ("answer", "d", 0), ("call", "a", "c")], ("c", 0, 1))


class NoClash(Looking):
    def test_no_wishes(self):
        self.check_none(plan_of())

    def test_one_wish(self):
        wishes = [("always", "b", "c"), ("bar", "a", ("b", "c")), ("wait", "b"), ("breaks", "a"), ("busy", "b", "c")]
        for wish in wishes:
            self.check_none(plan_of(wish))

    def test_wishes_that_want_the_same(self):
        always = ("always", "b", "c")
        self.check_none(plan_of(always, always, ("night", "b", "c", 1, 0), ("busy", "b", "c")))
        self.check_none(plan_of(("bar", "a", ("b",)), ("shut", "b", ("a", "c"))))

    def test_wishes_of_unlike_names(self):
        self.check_none(plan_of(
            ("always", "b", "c"), ("always", "c", "d"), ("always", "a", "b"), ("silent", "d", "a", 1),
        ))

    def test_an_always_keeps_a_silent_wish_from_ringing(self):
        self.check_none(plan_of(("always", "b", "c"), ("silent", "b", "d", 1)))

    def test_the_sooner_of_two_silent_wishes(self):
        self.check_none(plan_of(("silent", "b", "c", 2), ("silent", "b", "d", 1)))

    def test_beyond_three_deeds(self):
        self.check_none(plan_of(("silent", "b", "c", 3), ("silent", "b", "d", 3)))
        self.check_none(plan_of(("night", "b", "c", 15, 16), ("always", "b", "d")))

    def test_wishes_that_are_off(self):
        off, on = (False, ("always", "b", "c")), (True, ("always", "b", "d"))
        self.check_none(plan_of(off, on))
        self.check_none(plan_of((True, off[1]), (False, on[1])))
        self.check_none(plan_of(off, (False, on[1])))
        self.check(plan_of((True, off[1]), on), [("call", "a", "b")], ("b", 0, 1))

    def test_wishes_that_are_off_among_others(self):
        plan = plan_of(
            (False, ("always", "a", "c")), ("always", "a", "b"), (False, ("wait", "b")), ("busy", "b", "d"),
            ("silent", "d", "a", 1), (False, ("silent", "d", "b", 1)), ("shut", "b", ("d",)),
        )
        self.check(plan, [("call", "a", "a"), ("call", "d", "a")], ("b", 3, 6))

    def test_no_deeds(self):
        self.assertEqual(looked(plan_of(("always", "b", "c"), ("always", "b", "d")), 0, 0), NONE)


class Own(Looking):
    def test_the_told_list_is_the_askers_own(self):
        plan = plan_of(("always", "b", "c"), ("always", "b", "d"))
        told = looked(plan, 12, 1)
        told[1].append(("turn",))
        told[1][0] = "changed"
        self.assertEqual(looked(plan, 12, 1), ("clash", [("call", "a", "b")], ("b", 0, 1)))
        self.assertIsNot(looked(plan, 12, 1)[1], looked(plan, 12, 1)[1])


def wanted(wish):
    if wish[0] in ("bar", "shut"):
        return "an end"
    if wish[0] in ("wait", "breaks"):
        return wish
    return wish[2]


def clashing(wishes, events):
    """As point 20 tells it, by the wishes' tuples; wishes that break want the same, whoever breaks."""
    found = []
    for event in events:
        if event[0] == "asks":
            pairs = [(i, j) for i in event[3] for j in event[3] if i < j]
            for i, j in pairs:
                breaks = wishes[i][1][0] == wishes[j][1][0] == "breaks"
                if wanted(wishes[i][1]) != wanted(wishes[j][1]) and not breaks:
                    found.append((event[2], i, j))
    return found


def candidates(board):
    names, numbers = board.plan.names(), range(len(board.calls))
    phones = board.plan.phone_names()
    deeds = [("turn",)] + [("call", a, b) for a in phones for b in names]
    deeds += [(word, a, k) for word in ("answer", "hang", "hold", "back") for a in phones for k in numbers]
    deeds += [(word, a, k, m) for word in ("hand", "join") for a in phones for k in numbers for m in numbers]
    return deeds


def done(parts, hour, row):
    """A Board behind a row of deeds, and the last one's events."""
    board, events = Board(Plan(*parts), hour), []
    for deed in row:
        events = do(board, deed)
    return board, events


def least(parts, hour, most):
    """As point 21 tells it: all rows of one length, the least first, ahead of those of the next one."""
    rows = [()]
    for length in range(most):
        longer = []
        for row in rows:
            board = done(parts, hour, row)[0]
            longer += [row + (deed,) for deed in candidates(board) if refusal(board, deed) is None]
        rows = sorted(longer)
        for row in rows:
            found = clashing(parts[2], done(parts, hour, row)[1])
            if found:
                return ("clash", list(row), found[0])
    return NONE


def drawn_wish(chance, phones, names):
    first, second = chance.sample(names, 2)
    phone = chance.choice(phones)
    return chance.choice([
        ("bar", phone, (first,)), ("shut", first, (phone,)), ("always", first, second), ("busy", first, second),
        ("night", first, second) + tuple(chance.sample(range(10, 16), 2)),
        ("silent", first, second, chance.randint(1, 2)), ("busy", first, second), ("wait", phone), ("wait", phone),
        ("breaks", phone), ("breaks", phone),
    ])


def drawn_parts(chance):
    members = chance.sample("abcxyz", chance.randint(2, 3))
    phones = [(name, chance.randint(1, 2), chance.randint(0, 9)) for name in members]
    groups = [("m", chance.choice(("all", "turns")), tuple(chance.sample(members, 2)))] * chance.randint(0, 1)
    names = members + [group[0] for group in groups]
    wishes = [(chance.random() < 0.8, drawn_wish(chance, members, names)) for again in range(chance.randint(2, 4))]
    return phones, groups, wishes


class AllRows(unittest.TestCase):
    def test_as_told(self):
        lengths = {}
        for number in range(90):
            chance = random.Random(f"looked {number}")
            parts, hour = drawn_parts(chance), chance.randint(8, 16)
            told = [looked(Plan(*parts), hour, most) for most in range(4)]
            self.assertEqual(told[3], least(parts, hour, 3), (parts, hour))
            length = 4 if told[3] == NONE else len(told[3][1])
            self.assertEqual(told[:3], [told[3] if most >= length else NONE for most in range(3)], (parts, hour))
            lengths[length] = lengths.get(length, 0) + 1
        # Clashes by one, by two and by three deeds, and none, have all come up.
        self.assertEqual(sorted(lengths), [1, 2, 3, 4])


if __name__ == "__main__":
    unittest.main()
