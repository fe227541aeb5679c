"""The deeds that can be done, and where wishes clash."""

import copy
import random
import unittest

from callboard.board import Board, picture
from callboard.deeds import do
from callboard.errors import NoDeed
from callboard.looker import choices, clashes
from callboard.plans import Plan
from callboard.replay import replayed

PHONES = [("a", 3, 5), ("b", 2, 4), ("c", 1, 3), ("d", 1, 2), ("e", 2, 9)]
GROUPS = [("g", "all", ("b", "c")), ("t", "turns", ("d", "c", "b"))]
WISHES = [
    (True, ("wait", "c")), (True, ("breaks", "e")), (False, ("always", "b", "a")), (True, ("silent", "t", "g", 2)),
]

NUMBER_WORDS = ("answer", "hang", "hold", "back")
PAIR_WORDS = ("hand", "join")


def board_behind(*deeds, phones=PHONES, groups=GROUPS, wishes=WISHES, hour=12):
    board = Board(Plan(phones, groups, wishes), hour)
    for deed in deeds:
        do(board, deed)
    return board


def every_deed(board):
    """All deeds but on and off: all phones and some that are none, all numbers of calls and some beyond."""
    names = board.plan.names() + ["zzz", "call"]
    numbers = range(-2, len(board.calls) + 2)
    deeds = [("turn",)]
    deeds += [("call", a, b) for a in names for b in names]
    deeds += [(word, a, k) for word in NUMBER_WORDS for a in names for k in numbers]
    deeds += [(word, a, k, m) for word in PAIR_WORDS for a in names for k in numbers for m in numbers]
    return deeds


def calls_of(callers, names):
    return [("call", caller, name) for caller in callers for name in names]


class Choices(unittest.TestCase):
    def is_done(self, board, deed):
        again = replayed(board.plan, board.hour_now() - board.turn, board.log)
        try:
            do(again, deed)
            return True
        except NoDeed:
            return False

    def check(self, board):
        before = copy.deepcopy((picture(board), board.legs, board.log, board.plan.on))
        told = choices(board)
        self.assertIsInstance(told, list)
        for deed, later in zip(told, told[1:]):
            self.assertLess(deed, later)
        every = every_deed(board)
        for deed in every:
            self.assertEqual(self.is_done(board, deed), deed in told, (deed, board.log))
        self.assertLessEqual(set(told), set(every))
        self.assertEqual((picture(board), board.legs, board.log, board.plan.on), before)
        return told

    def words(self, board):
        return {deed[0] for deed in self.check(board)}


class ChoicesByState(Choices):
    def test_a_new_board(self):
        told = self.check(board_behind())
        self.assertEqual(told, calls_of("abcde", "abcdegt") + [("turn",)])

    def test_one_phone(self):
        self.assertEqual(self.check(board_behind(phones=[("a", 1, 0)], groups=[], wishes=[])), [
            ("call", "a", "a"), ("turn",),
        ])

    def test_rings(self):
        board = board_behind(("call", "a", "c"))
        self.assertEqual(self.check(board), [
            ("answer", "c", 0), *calls_of("bde", "abcdegt"), ("hang", "a", 0), ("hang", "c", 0), ("turn",),
        ])

    def test_rings_at_a_group(self):
        board = board_behind(("call", "a", "g"))
        self.assertEqual(self.check(board), [
            ("answer", "b", 0), ("answer", "c", 0), *calls_of("bde", "abcdegt"),
            ("hang", "a", 0), ("hang", "b", 0), ("hang", "c", 0), ("turn",),
        ])

    def test_waits(self):
        board = board_behind(("call", "a", "c"), ("call", "b", "c"))
        self.assertEqual(board.calls[1].state, "waits")
        # c is full: it can answer the call that rings there, not the one that waits.
        self.assertEqual(self.check(board), [
            ("answer", "c", 0), *calls_of("de", "abcdegt"),
            ("hang", "a", 0), ("hang", "b", 1), ("hang", "c", 0), ("hang", "c", 1), ("turn",),
        ])

    def test_waits_at_a_phone_that_is_free_again(self):
        board = board_behind(("call", "a", "c"), ("call", "b", "c"), ("hang", "a", 0))
        self.assertIn(("answer", "c", 1), self.check(board))

    def test_talks(self):
        board = board_behind(("call", "a", "b"), ("answer", "b", 0))
        self.assertEqual(self.check(board), [
            *calls_of("cde", "abcdegt"), ("hang", "a", 0), ("hang", "b", 0), ("hold", "a", 0), ("hold", "b", 0),
            ("turn",),
        ])

    def test_a_talk_of_three(self):
        board = board_behind(("call", "c", "d"), ("answer", "d", 0), ("call", "e", "d"))
        self.assertEqual(board.calls[0].members, ["c", "d", "e"])
        self.assertEqual(self.check(board), [
            *calls_of("ab", "abcdegt"), ("hang", "c", 0), ("hang", "d", 0), ("hang", "e", 0), ("turn",),
        ])

    def test_held(self):
        board = board_behind(("call", "a", "b"), ("answer", "b", 0), ("hold", "a", 0))
        self.assertEqual(self.check(board), [
            ("back", "a", 0), *calls_of("acde", "abcdegt"), ("hang", "a", 0), ("hang", "b", 0), ("turn",),
        ])

    def test_held_by_a_phone_that_is_full(self):
        board = board_behind(("call", "c", "d"), ("answer", "d", 0), ("hold", "d", 0))
        self.assertEqual(self.check(board), [
            ("back", "d", 0), *calls_of("abe", "abcdegt"), ("hang", "c", 0), ("hang", "d", 0), ("turn",),
        ])

    def test_held_with_a_talk(self):
        board = board_behind(
            ("call", "a", "b"), ("answer", "b", 0), ("hold", "a", 0), ("call", "a", "c"), ("answer", "c", 1),
        )
        self.assertEqual(self.check(board), [
            *calls_of("de", "abcdegt"), ("hand", "a", 0, 1), ("hang", "a", 0), ("hang", "a", 1), ("hang", "b", 0),
            ("hang", "c", 1), ("hold", "a", 1), ("hold", "c", 1), ("join", "a", 0, 1), ("turn",),
        ])

    def test_two_held(self):
        board = board_behind(
            ("call", "a", "b"), ("answer", "b", 0), ("hold", "a", 0), ("call", "a", "c"), ("answer", "c", 1),
            ("hold", "a", 1), ("call", "d", "a"), ("answer", "a", 2),
        )
        told = self.check(board)
        self.assertEqual([deed for deed in told if deed[0] in PAIR_WORDS], [
            ("hand", "a", 0, 2), ("hand", "a", 1, 2), ("join", "a", 0, 2), ("join", "a", 1, 2),
        ])

    def test_over(self):
        board = board_behind(("call", "a", "c"), ("hang", "a", 0))
        self.assertEqual(self.check(board), calls_of("abcde", "abcdegt") + [("turn",)])

    def test_over_and_then_others(self):
        board = board_behind(("call", "a", "c"), ("hang", "a", 0), ("call", "b", "b"), ("call", "d", "c"))
        self.assertEqual([call.state for call in board.calls], ["over", "over", "rings"])
        self.assertEqual(self.check(board), [
            ("answer", "c", 2), *calls_of("abe", "abcdegt"), ("hang", "c", 2), ("hang", "d", 2), ("turn",),
        ])

    def test_wishes_that_are_put_on_and_off(self):
        board = board_behind(("off", 0), ("on", 2))
        self.assertEqual(self.check(board), calls_of("abcde", "abcdegt") + [("turn",)])

    def test_names_in_another_order(self):
        board = board_behind(phones=[("z", 1, 0), ("b", 1, 0), ("ba", 1, 0)], groups=[("a", "all", ("z",))], wishes=[])
        self.assertEqual(self.check(board), [
            ("call", phone, name) for phone in ("b", "ba", "z") for name in ("a", "b", "ba", "z")
        ] + [("turn",)])

    def test_numbers_of_two_figures_come_behind_those_of_one(self):
        board = board_behind(wishes=[])
        for again in range(11):
            do(board, ("call", "c", "c"))
            self.assertEqual(board.calls[-1].word, "engaged")
        for deed in [("call", "a", "b"), ("answer", "b", 11), ("hold", "a", 11), ("call", "d", "a")]:
            do(board, deed)
        told = choices(board)
        self.assertEqual([deed for deed in told if deed[0] == "hang"], [
            ("hang", "a", 11), ("hang", "a", 12), ("hang", "b", 11), ("hang", "d", 12),
        ])
        self.assertEqual(told, sorted(told))

    def test_the_told_list_is_the_askers_own(self):
        board = board_behind(("call", "a", "c"))
        told = choices(board)
        kept = list(told)
        told.reverse()
        told.append(("turn",))
        self.assertEqual(choices(board), kept)
        self.assertIsNot(choices(board), choices(board))


class ChoicesBehindRows(Choices):
    def test_rows_by_chance(self):
        states, words = set(), set()
        for number in range(8):
            chance = random.Random(f"choices {number}")
            board = board_behind()
            for again in range(16):
                words |= self.words(board)
                # By word first, since calls are most of what there is to choose from; hang and back lead nowhere.
                told = [deed for deed in choices(board) if deed[0] not in ("hang", "back") or chance.random() < 0.1]
                word = chance.choice(sorted({deed[0] for deed in told} - {"turn"}) or ["turn"])
                do(board, chance.choice([deed for deed in told if deed[0] == word]))
                states |= {call.state for call in board.calls}
        self.assertEqual(states, {"rings", "waits", "talks", "held", "over"})
        self.assertEqual(words, {"call", "turn", *NUMBER_WORDS, *PAIR_WORDS})


CLASHING = [
    ("always", "b", "c"),           # 0
    ("always", "b", "c"),           # 1
    ("always", "b", "d"),           # 2
    ("night", "b", "c", 22, 6),     # 3
    ("bar", "a", ("b", "g")),       # 4
    ("shut", "b", ("a",)),          # 5
    ("wait", "b"),                  # 6
    ("breaks", "e"),                # 7
    ("busy", "b", "c"),             # 8
    ("silent", "b", "c", 1),        # 9
    ("silent", "b", "d", 2),        # 10
    ("wait", "c"),                  # 11
    ("breaks", "a"),                # 12
]


class Clashes(unittest.TestCase):
    def setUp(self):
        self.plan = Plan(PHONES, GROUPS, [(place % 2 == 0, wish) for place, wish in enumerate(CLASHING)])

    def told(self, *asks):
        events = [("asks", number, target, fits) for number, (target, fits) in enumerate(asks)]
        before = copy.deepcopy(events)
        told = clashes(self.plan, events)
        self.assertIsInstance(told, list)
        self.assertEqual(events, before)
        return told

    def test_no_events(self):
        self.assertEqual(clashes(self.plan, []), [])

    def test_events_without_asks(self):
        self.assertEqual(clashes(self.plan, [
            ("new", 0, "a"), ("leg", 0, "a", "b", "a"), ("next", "t", 1), ("rings", 0, ("b", "c")), ("quiet", 0),
            ("waits", 0, "b"), ("talks", 0, ("a", "b")), ("held", 0, "a"), ("leaves", 0, "a"),
            ("merge", 0, 2, (0, 2)), ("over", 0, "done"), ("turn",), ("on", 0), ("off", 2),
        ]), [])

    def test_none_fits(self):
        self.assertEqual(self.told(("b", ())), [])

    def test_one_fits(self):
        for number in range(len(CLASHING)):
            self.assertEqual(self.told(("b", (number,))), [])

    def test_two_always_to_one_name(self):
        self.assertEqual(self.told(("b", (0, 1))), [])

    def test_two_always_to_two_names(self):
        self.assertEqual(self.told(("b", (0, 2))), [("b", 0, 2)])
        self.assertEqual(self.told(("b", (1, 2))), [("b", 1, 2)])

    def test_a_night_and_an_always(self):
        self.assertEqual(self.told(("b", (0, 3))), [])
        self.assertEqual(self.told(("b", (2, 3))), [("b", 2, 3)])

    def test_a_busy_and_an_always(self):
        self.assertEqual(self.told(("b", (0, 8))), [])
        self.assertEqual(self.told(("b", (2, 8))), [("b", 2, 8)])

    def test_two_silent(self):
        self.assertEqual(self.told(("b", (9, 10))), [("b", 9, 10)])

    def test_bar_and_shut_both_want_an_end(self):
        self.assertEqual(self.told(("b", (4, 5))), [])

    def test_an_end_and_another(self):
        self.assertEqual(self.told(("b", (0, 4))), [("b", 0, 4)])
        self.assertEqual(self.told(("b", (5, 6))), [("b", 5, 6)])
        self.assertEqual(self.told(("b", (4, 12))), [("b", 4, 12)])

    def test_wait_and_breaks(self):
        self.assertEqual(self.told(("b", (6, 7))), [("b", 6, 7)])
        self.assertEqual(self.told(("b", (7, 8))), [("b", 7, 8)])
        self.assertEqual(self.told(("b", (6, 8))), [("b", 6, 8)])

    def test_alike_in_what_they_want(self):
        self.assertEqual(self.told(("b", (7, 12))), [])
        self.assertEqual(self.told(("b", (6, 11))), [("b", 6, 11)])

    def test_three(self):
        self.assertEqual(self.told(("b", (0, 1, 2))), [("b", 0, 2), ("b", 1, 2)])
        self.assertEqual(self.told(("b", (0, 2, 3))), [("b", 0, 2), ("b", 2, 3)])
        self.assertEqual(self.told(("b", (0, 2, 4))), [("b", 0, 2), ("b", 0, 4), ("b", 2, 4)])
        self.assertEqual(self.told(("b", (0, 1, 3))), [])

    def test_four(self):
        self.assertEqual(self.told(("b", (0, 2, 5, 6))), [
            ("b", 0, 2), ("b", 0, 5), ("b", 0, 6), ("b", 2, 5), ("b", 2, 6), ("b", 5, 6),
        ])

    def test_several_asks_in_order(self):
        self.assertEqual(self.told(("t", (2, 4)), ("c", ()), ("b", (0, 2)), ("g", (0, 1)), ("a", (0, 4, 5))), [
            ("t", 2, 4), ("b", 0, 2), ("a", 0, 4), ("a", 0, 5),
        ])

    def test_the_same_asks_twice(self):
        self.assertEqual(self.told(("b", (0, 2)), ("b", (0, 2))), [("b", 0, 2), ("b", 0, 2)])

    def test_asks_among_other_events(self):
        self.assertEqual(clashes(self.plan, [
            ("new", 3, "a"), ("leg", 3, "a", "b", "a"), ("asks", 3, "b", (2, 4)), ("leg", 3, "b", "d", "b"),
            ("asks", 3, "d", ()), ("rings", 3, ("d",)), ("turn",), ("asks", 3, "d", (0, 4)), ("quiet", 3),
        ]), [("b", 2, 4), ("d", 0, 4)])

    def test_what_deeds_tell(self):
        plan = Plan(PHONES, GROUPS, [(True, ("always", "b", "c")), (False, ("always", "b", "d")), (True, ("wait", "c")),
                                     (True, ("shut", "c", ("d", "e"))), (True, ("bar", "e", ("b",)))])
        board = Board(plan, 12)
        self.assertEqual(clashes(plan, do(board, ("call", "a", "b"))), [])
        self.assertEqual(clashes(plan, do(board, ("call", "d", "b"))), [("c", 2, 3)])
        # A call waits there by now, so the wait fits no longer.
        self.assertEqual(clashes(plan, do(board, ("call", "e", "b"))), [("b", 0, 4)])
        self.assertEqual(clashes(plan, board.log), [("c", 2, 3), ("b", 0, 4)])
        self.assertEqual([event[0] for event in board.log].count("asks"), 6)

    def test_the_told_list_is_the_askers_own(self):
        events = [("asks", 0, "b", (0, 2))]
        told = clashes(self.plan, events)
        told.append("more")
        self.assertEqual(clashes(self.plan, events), [("b", 0, 2)])
        self.assertIsNot(clashes(self.plan, []), clashes(self.plan, []))


if __name__ == "__main__":
    unittest.main()
