"""What each leg has come to, and who owes it."""

import copy
import unittest

from callboard.bills import bills, owed
from callboard.board import Board
from callboard.deeds import do
from callboard.plans import Plan

PHONES = [("a", 3, 5), ("b", 2, 4), ("c", 1, 3), ("d", 1, 2), ("e", 1, 9), ("f", 2, 0)]
GROUPS = [("g", "all", ("b", "c")), ("t", "turns", ("d", "c"))]

TURN = ("turn",)


def log_of(wishes, *deeds):
    board = Board(Plan(PHONES, GROUPS, [(True, wish) for wish in wishes]), 12)
    for deed in deeds:
        do(board, deed)
    return board.log


class Checks(unittest.TestCase):
    def check(self, log, expected, sums):
        kept = copy.deepcopy(log)
        for again in range(2):
            told = bills(log)
            self.assertIsInstance(told, list)
            self.assertEqual(told, expected)
            told = owed(log)
            self.assertIsInstance(told, list)
            self.assertEqual(told, sums)
        self.assertEqual(log, kept)


class Bills(Checks):
    def test_an_empty_log(self):
        self.check([], [], [])

    def test_turns_alone(self):
        self.check(log_of([], TURN, TURN), [], [])

    def test_while_it_talks(self):
        row = [("call", "a", "b"), ("answer", "b", 0)]
        for turns in range(5):
            log = log_of([], *row, *[TURN] * turns)
            self.check(log, [("a", "b", "a", turns)], [("a", turns)])

    def test_not_while_it_rings(self):
        log = log_of([], ("call", "a", "b"), TURN, TURN)
        self.check(log, [("a", "b", "a", 0)], [("a", 0)])
        log = log_of([], ("call", "a", "b"), TURN, TURN, ("answer", "b", 0), TURN)
        self.check(log, [("a", "b", "a", 1)], [("a", 1)])

    def test_not_while_it_waits(self):
        row = [("call", "c", "d"), ("call", "a", "c"), TURN, TURN, ("hang", "c", 0)]
        log = log_of([("wait", "c")], *row)
        self.check(log, [("c", "d", "c", 0), ("a", "c", "a", 0)], [("a", 0), ("c", 0)])
        log = log_of([("wait", "c")], *row, ("answer", "c", 1), TURN)
        self.check(log, [("c", "d", "c", 0), ("a", "c", "a", 1)], [("a", 1), ("c", 0)])

    def test_while_it_is_held(self):
        row = [("call", "a", "b"), ("answer", "b", 0), TURN, ("hold", "b", 0), TURN, TURN]
        self.check(log_of([], *row), [("a", "b", "a", 3)], [("a", 3)])
        row += [("back", "b", 0), TURN]
        self.check(log_of([], *row), [("a", "b", "a", 4)], [("a", 4)])
        row += [("hold", "a", 0), TURN, ("hang", "b", 0), TURN]
        self.check(log_of([], *row), [("a", "b", "a", 5)], [("a", 5)])

    def test_not_when_it_is_over(self):
        row = [("call", "a", "b"), ("answer", "b", 0), TURN, ("hang", "a", 0), TURN]
        self.check(log_of([], *row), [("a", "b", "a", 1)], [("a", 1)])

    def test_not_a_call_that_never_talks(self):
        row = [
            ("call", "a", "b"), ("hang", "a", 0), TURN, ("call", "c", "d"), ("hang", "d", 1), TURN, ("call", "e", "e"),
            TURN,
        ]
        expected = [("a", "b", "a", 0), ("c", "d", "c", 0), ("e", "e", "e", 0)]
        self.check(log_of([], *row), expected, [("a", 0), ("c", 0), ("e", 0)])

    def test_barred_engaged_and_rings(self):
        wishes = [("bar", "a", ("b",)), ("always", "c", "d"), ("always", "d", "c")]
        row = [("call", "a", "b"), TURN, ("call", "b", "c"), TURN, ("call", "e", "e"), TURN]
        expected = [("a", "b", "a", 0), ("b", "c", "b", 0), ("c", "d", "c", 0), ("d", "c", "d", 0), ("e", "e", "e", 0)]
        self.check(log_of(wishes, *row), expected, [("a", 0), ("b", 0), ("c", 0), ("d", 0), ("e", 0)])

    def test_each_leg_to_who_caused_it(self):
        wishes = [("always", "f", "g"), ("busy", "g", "d")]
        row = [("call", "e", "c"), ("call", "b", "f"), ("answer", "d", 1), TURN, TURN]
        expected = [("e", "c", "e", 0), ("b", "f", "b", 2), ("f", "g", "f", 2), ("g", "d", "g", 2)]
        self.check(log_of(wishes, *row), expected, [("b", 2), ("e", 0), ("f", 2), ("g", 2)])

    def test_legs_by_silence(self):
        row = [("call", "a", "b"), TURN, ("answer", "c", 0), TURN, TURN]
        expected = [("a", "b", "a", 2), ("b", "c", "b", 2)]
        self.check(log_of([("silent", "b", "c", 1)], *row), expected, [("a", 2), ("b", 2)])

    def test_several_calls_at_once(self):
        row = [
            ("call", "a", "b"), ("answer", "b", 0), TURN, ("call", "c", "d"), TURN, ("answer", "d", 1), TURN,
            ("hang", "b", 0), TURN, ("call", "a", "f"), TURN,
        ]
        expected = [("a", "b", "a", 3), ("c", "d", "c", 3), ("a", "f", "a", 0)]
        self.check(log_of([], *row), expected, [("a", 3), ("c", 3)])

    def test_the_sum_for_each_name(self):
        row = [
            ("call", "a", "b"), ("answer", "b", 0), TURN, ("hang", "b", 0), ("call", "a", "f"), ("answer", "f", 1),
            TURN, TURN, ("hang", "a", 1), ("call", "c", "a"), ("answer", "a", 2), TURN,
        ]
        expected = [("a", "b", "a", 1), ("a", "f", "a", 2), ("c", "a", "c", 1)]
        self.check(log_of([], *row), expected, [("a", 3), ("c", 1)])

    def test_rising(self):
        row = [("call", "f", "b"), ("answer", "b", 0), TURN, ("call", "c", "d"), ("answer", "d", 1), TURN]
        row += [("call", "a", "e")]
        self.assertEqual(owed(log_of([], *row)), [("a", 0), ("c", 1), ("f", 2)])


class Merged(Checks):
    row = [
        ("call", "a", "b"), ("answer", "b", 0), TURN, ("hold", "a", 0), TURN, ("call", "f", "a"), TURN,
        ("answer", "a", 1), TURN,
    ]

    def test_ahead_of_it(self):
        self.check(log_of([], *self.row), [("a", "b", "a", 4), ("f", "a", "f", 1)], [("a", 4), ("f", 1)])

    def test_handed_over(self):
        row = self.row + [("hand", "a", 0, 1), TURN, TURN]
        self.check(log_of([], *row), [("a", "b", "a", 6), ("f", "a", "f", 3)], [("a", 6), ("f", 3)])

    def test_joined(self):
        row = self.row + [("join", "a", 0, 1), TURN]
        self.check(log_of([], *row), [("a", "b", "a", 5), ("f", "a", "f", 2)], [("a", 5), ("f", 2)])

    def test_one_of_three_leaves(self):
        row = self.row + [("join", "a", 0, 1), TURN, ("hang", "a", 1), TURN]
        self.check(log_of([], *row), [("a", "b", "a", 6), ("f", "a", "f", 3)], [("a", 6), ("f", 3)])

    def test_held_and_over_together(self):
        row = self.row + [("hand", "a", 0, 1), ("hold", "b", 1), TURN, ("hang", "f", 1), TURN]
        self.check(log_of([], *row), [("a", "b", "a", 5), ("f", "a", "f", 2)], [("a", 5), ("f", 2)])

    def test_into_the_earlier_call(self):
        row = self.row + [("hold", "a", 1), ("back", "a", 0), ("hand", "a", 1, 0), TURN, ("hang", "b", 0), TURN]
        self.check(log_of([], *row), [("a", "b", "a", 5), ("f", "a", "f", 2)], [("a", 5), ("f", 2)])

    def test_twice(self):
        row = [
            ("call", "a", "b"), ("answer", "b", 0), TURN, ("hold", "b", 0), ("call", "b", "c"), ("answer", "c", 1),
            TURN, ("hand", "b", 0, 1), TURN, ("hold", "a", 1), ("call", "a", "d"), ("answer", "d", 2), TURN,
            ("join", "a", 1, 2), TURN, ("hang", "c", 2), TURN, ("hang", "d", 2), TURN,
        ]
        expected = [("a", "b", "a", 6), ("b", "c", "b", 5), ("a", "d", "a", 3)]
        self.check(log_of([], *row), expected, [("a", 9), ("b", 5)])

    def test_broken_into(self):
        wishes = [("always", "f", "c"), ("breaks", "e")]
        row = [("call", "c", "d"), ("answer", "d", 0), TURN, ("call", "e", "f"), TURN, TURN]
        expected = [("c", "d", "c", 3), ("e", "f", "e", 2), ("f", "c", "f", 2)]
        self.check(log_of(wishes, *row), expected, [("c", 3), ("e", 2), ("f", 2)])

    def test_broken_into_by_a_turn(self):
        wishes = [("silent", "b", "c", 1), ("breaks", "e")]
        row = [("call", "c", "d"), ("answer", "d", 0), ("call", "e", "b"), TURN]
        expected = [("c", "d", "c", 1), ("e", "b", "e", 0), ("b", "c", "b", 0)]
        self.check(log_of(wishes, *row), expected, [("b", 0), ("c", 1), ("e", 0)])
        row += [TURN]
        expected = [("c", "d", "c", 2), ("e", "b", "e", 1), ("b", "c", "b", 1)]
        self.check(log_of(wishes, *row), expected, [("b", 1), ("c", 2), ("e", 1)])


class Beginnings(unittest.TestCase):
    def test_each_of_one(self):
        log = log_of([], *Merged.row, ("hand", "a", 0, 1), TURN)
        places = [place for place, event in enumerate(log) if event == TURN]
        sums = [owed(log[:place]) for place in places]
        both = [[("a", 2), ("f", 0)], [("a", 3), ("f", 0)], [("a", 4), ("f", 1)]]
        self.assertEqual(sums, [[("a", 0)], [("a", 1)]] + both)
        for length in range(len(log) + 1):
            legs = len([event for event in log[:length] if event[0] == "leg"])
            self.assertEqual(len(bills(log[:length])), legs)


class Own(unittest.TestCase):
    def test_a_told_list_that_is_changed(self):
        log = log_of([], *Merged.row)
        for ask in (bills, owed):
            kept = list(ask(log))
            told = ask(log)
            told.append(("a", 9))
            told[0] = ()
            self.assertEqual(ask(log), kept)
            self.assertIsNot(ask(log), ask(log))
        self.assertEqual(log, log_of([], *Merged.row))

    def test_kinds(self):
        log = log_of([], *Merged.row)
        for leg in bills(log):
            self.assertEqual([kind.__name__ for kind in map(type, leg)], ["str", "str", "str", "int"])
        for pair in owed(log):
            self.assertEqual([kind.__name__ for kind in map(type, pair)], ["str", "int"])


if __name__ == "__main__":
    unittest.main()
