"""What each deed tells and does, and the words with which it is refused."""

import copy
import unittest

from callboard.board import Board, picture
from callboard.deeds import do, refusal
from callboard.errors import CallError, NoDeed, NoPlan, NoSheet
from callboard.plans import Plan

PHONES = [("a", 3, 5), ("b", 2, 4), ("c", 1, 3), ("d", 1, 2), ("e", 1, 9), ("f", 2, 0), ("h", 1, 1)]
GROUPS = [("t", "turns", ("d", "c", "b")), ("g", "all", ("b", "f", "c"))]

NO_CALLS = (-1, -2, -10 ** 30, 10 ** 30)


def board_of(*wishes, hour=12):
    return Board(Plan(PHONES, GROUPS, [(True, wish) for wish in wishes]), hour)


def done(board, *deeds):
    for deed in deeds:
        do(board, deed)
    return board


def whole(board):
    """All that a Board has, taken as it is now."""
    return copy.deepcopy((picture(board), board.turn, board.legs, board.nexts, board.on, board.log))


def states_of(board):
    return [call.state for call in board.calls]


class Deeds(unittest.TestCase):
    def check(self, board, deed, *events):
        """The deed is done, and these are its events."""
        before = whole(board)
        self.assertIsNone(refusal(board, deed))
        self.assertEqual(whole(board), before)
        begun = list(board.log)
        told = do(board, deed)
        self.assertIsInstance(told, list)
        self.assertEqual(told, list(events))
        self.assertEqual(board.log, begun + list(events))
        again = Board(board.plan, 12)
        for event in board.log:
            again.apply(event)
        self.assertEqual(picture(again), picture(board))
        self.assertEqual(again.legs, board.legs)

    def check_refused(self, board, deed, word):
        before = whole(board)
        self.assertEqual(refusal(board, deed), word, deed)
        self.assertEqual(whole(board), before)
        with self.assertRaises(NoDeed) as caught:
            do(board, deed)
        self.assertEqual(caught.exception.word, word, deed)
        self.assertIsInstance(caught.exception, CallError)
        self.assertNotIsInstance(caught.exception, (NoPlan, NoSheet))
        self.assertEqual(whole(board), before)

    def check_each_refused(self, board, word, *deeds):
        for deed in deeds:
            self.check_refused(board, deed, word)


class Names(Deeds):
    def test_a_is_no_phone(self):
        board = done(board_of(), ("call", "a", "b"))
        for name in ("zz", "", "A", "a ", "g", "t"):
            self.check_each_refused(
                board, "name", ("call", name, "b"), ("answer", name, 0), ("hang", name, 0), ("hold", name, 0),
                ("back", name, 0), ("hand", name, 0, 0), ("join", name, 0, 0),
            )

    def test_b_is_no_name(self):
        board = board_of()
        for name in ("zz", "", "A", "a ", "all"):
            self.check_refused(board, ("call", "a", name), "name")

    def test_neither_is_one(self):
        self.check_refused(board_of(), ("call", "zz", "yy"), "name")

    def test_ahead_of_every_other_word(self):
        board = done(board_of(), ("call", "a", "c"), ("answer", "c", 0), ("call", "d", "b"), ("call", "h", "e"))
        self.check_refused(board, ("call", "a", "zz"), "name")
        self.check_refused(board, ("call", "c", "zz"), "name")
        self.check_refused(board, ("call", "d", "zz"), "name")
        self.check_refused(board, ("call", "e", "zz"), "name")
        for number in NO_CALLS + (3,):
            self.check_each_refused(
                board, "name", ("answer", "g", number), ("hang", "g", number), ("hold", "zz", number),
                ("back", "zz", number), ("hand", "t", number, 0), ("join", "t", 0, number),
            )

    def test_a_group_may_be_called(self):
        self.assertIsNone(refusal(board_of(), ("call", "a", "g")))
        self.assertIsNone(refusal(board_of(), ("call", "a", "t")))


class Call(Deeds):
    def test_is_made(self):
        self.check(
            board_of(), ("call", "a", "b"),
            ("new", 0, "a"), ("leg", 0, "a", "b", "a"), ("asks", 0, "b", ()), ("rings", 0, ("b",)),
        )

    def test_takes_the_next_number(self):
        board = done(board_of(), ("call", "a", "c"), ("hang", "a", 0))
        self.check(
            board, ("call", "d", "c"),
            ("new", 1, "d"), ("leg", 1, "d", "c", "d"), ("asks", 1, "c", ()), ("rings", 1, ("c",)),
        )

    def test_to_itself(self):
        self.check(
            board_of(), ("call", "a", "a"),
            ("new", 0, "a"), ("leg", 0, "a", "a", "a"), ("asks", 0, "a", ()), ("over", 0, "engaged"),
        )

    def test_bound_in_a_talk(self):
        board = done(board_of(), ("call", "a", "b"), ("answer", "b", 0))
        self.check_each_refused(board, "bound", ("call", "a", "d"), ("call", "b", "d"), ("call", "a", "a"))

    def test_bound_in_a_talk_of_three(self):
        board = done(
            board_of(), ("call", "a", "b"), ("answer", "b", 0), ("hold", "a", 0), ("call", "a", "f"),
            ("answer", "f", 1), ("join", "a", 0, 1),
        )
        self.check_each_refused(board, "bound", ("call", "a", "d"), ("call", "b", "d"), ("call", "f", "d"))

    def test_bound_where_another_holds(self):
        board = done(board_of(), ("call", "a", "b"), ("answer", "b", 0), ("hold", "a", 0))
        self.check_refused(board, ("call", "b", "d"), "bound")
        self.assertIsNone(refusal(board, ("call", "a", "d")))

    def test_bound_ahead_of_full(self):
        board = done(board_of(), ("call", "c", "d"), ("answer", "d", 0))
        self.check_each_refused(board, "bound", ("call", "c", "e"), ("call", "d", "e"))

    def test_calls_while_it_rings(self):
        board = done(board_of(), ("call", "a", "b"))
        self.check_refused(board, ("call", "a", "d"), "calls")

    def test_calls_while_it_waits(self):
        board = done(board_of(("wait", "c")), ("call", "c", "d"), ("call", "a", "c"))
        self.assertEqual(states_of(board), ["rings", "waits"])
        self.check_refused(board, ("call", "a", "e"), "calls")

    def test_calls_ahead_of_full(self):
        board = done(board_of(), ("call", "c", "b"))
        self.check_refused(board, ("call", "c", "d"), "calls")

    def test_full_where_it_is_rung(self):
        board = done(board_of(), ("call", "a", "c"))
        self.check_refused(board, ("call", "c", "d"), "full")
        board = done(board_of(), ("call", "a", "b"), ("call", "d", "b"))
        self.check_refused(board, ("call", "b", "e"), "full")

    def test_full_where_it_holds(self):
        board = done(board_of(), ("call", "c", "d"), ("answer", "d", 0), ("hold", "c", 0))
        self.check_refused(board, ("call", "c", "e"), "full")

    def test_with_a_line_left(self):
        board = done(board_of(), ("call", "a", "b"))
        self.assertIsNone(refusal(board, ("call", "b", "d")))

    def test_a_call_that_waits_takes_no_line(self):
        board = done(board_of(("wait", "c")), ("call", "c", "d"), ("call", "a", "c"), ("hang", "c", 0))
        self.assertEqual(states_of(board), ["over", "waits"])
        self.assertIsNone(refusal(board, ("call", "c", "d")))

    def test_again_behind_a_call_that_is_over(self):
        board = done(board_of(), ("call", "c", "d"), ("hang", "c", 0))
        self.assertIsNone(refusal(board, ("call", "c", "d")))


class Answer(Deeds):
    def test_a_call_that_rings(self):
        board = done(board_of(), ("call", "a", "b"))
        self.check(board, ("answer", "b", 0), ("talks", 0, ("a", "b")))
        self.assertEqual((board.calls[0].at, board.calls[0].members), ([], ["a", "b"]))

    def test_one_of_several_that_are_rung(self):
        board = done(board_of(), ("call", "a", "g"))
        self.assertEqual(board.calls[0].at, ["b", "f", "c"])
        self.check(board, ("answer", "f", 0), ("talks", 0, ("a", "f")))
        self.assertEqual((board.used("b"), board.used("c"), board.used("f")), (0, 0, 1))

    def test_with_its_last_line(self):
        board = done(board_of(), ("call", "a", "c"))
        self.assertFalse(board.is_free("c"))
        self.check(board, ("answer", "c", 0), ("talks", 0, ("a", "c")))

    def test_a_call_that_waits(self):
        board = done(board_of(("wait", "c")), ("call", "c", "d"), ("call", "a", "c"), ("hang", "c", 0))
        self.check(board, ("answer", "c", 1), ("talks", 1, ("a", "c")))

    def test_no_such_call(self):
        board = board_of()
        for number in NO_CALLS + (0, 1):
            self.check_refused(board, ("answer", "a", number), "call")
        done(board, ("call", "a", "b"), ("call", "d", "b"))
        for number in NO_CALLS + (2, 3):
            self.check_refused(board, ("answer", "b", number), "call")

    def test_a_call_that_rings_elsewhere(self):
        board = done(board_of(), ("call", "a", "b"), ("call", "d", "c"))
        self.check_each_refused(
            board, "call", ("answer", "a", 0), ("answer", "c", 0), ("answer", "b", 1), ("answer", "e", 0),
        )

    def test_a_call_that_waits_elsewhere(self):
        board = done(board_of(("wait", "c")), ("call", "c", "d"), ("call", "a", "c"))
        self.check_each_refused(board, "call", ("answer", "a", 1), ("answer", "b", 1), ("answer", "d", 1))

    def test_a_call_that_it_would_not_take(self):
        board = done(board_of(), ("call", "a", "g"), ("hang", "f", 0))
        self.check_refused(board, ("answer", "f", 0), "call")

    def test_a_call_that_talks_is_held_or_over(self):
        board = done(board_of(), ("call", "a", "b"), ("answer", "b", 0))
        self.check_each_refused(board, "call", ("answer", "a", 0), ("answer", "b", 0), ("answer", "c", 0))
        done(board, ("hold", "b", 0))
        self.check_each_refused(board, "call", ("answer", "a", 0), ("answer", "b", 0), ("answer", "c", 0))
        done(board, ("hang", "b", 0))
        self.check_each_refused(board, "call", ("answer", "a", 0), ("answer", "b", 0), ("answer", "c", 0))

    def test_call_ahead_of_bound_and_calls(self):
        board = done(board_of(), ("call", "a", "b"), ("answer", "b", 0), ("call", "d", "c"))
        self.check_each_refused(board, "call", ("answer", "b", 0), ("answer", "b", 1), ("answer", "b", 9))
        self.check_each_refused(board, "call", ("answer", "d", 0), ("answer", "d", 1), ("answer", "d", 9))

    def test_bound(self):
        board = done(board_of(), ("call", "a", "b"), ("answer", "b", 0), ("call", "d", "b"))
        self.check_refused(board, ("answer", "b", 1), "bound")
        done(board, ("hold", "a", 0))
        self.check_refused(board, ("answer", "b", 1), "bound")

    def test_what_the_phone_itself_holds_does_not_bind_it(self):
        board = done(board_of(), ("call", "a", "b"), ("answer", "b", 0), ("call", "d", "b"), ("hold", "b", 0))
        self.check(board, ("answer", "b", 1), ("talks", 1, ("d", "b")))

    def test_calls(self):
        board = done(board_of(), ("call", "b", "e"), ("call", "d", "b"))
        self.check_refused(board, ("answer", "b", 1), "calls")

    def test_bound_ahead_of_full(self):
        board = done(board_of(("wait", "c")), ("call", "c", "d"), ("answer", "d", 0), ("call", "a", "c"))
        self.assertEqual(states_of(board), ["talks", "waits"])
        self.check_refused(board, ("answer", "c", 1), "bound")

    def test_calls_ahead_of_full(self):
        board = done(board_of(("wait", "c")), ("call", "c", "d"), ("call", "a", "c"))
        self.check_refused(board, ("answer", "c", 1), "calls")

    def test_full_where_it_holds(self):
        board = done(
            board_of(("wait", "c")), ("call", "c", "d"), ("answer", "d", 0), ("call", "a", "c"), ("hold", "c", 0),
        )
        self.check_refused(board, ("answer", "c", 1), "full")

    def test_full_where_another_call_rings(self):
        board = done(board_of(("wait", "c")), ("call", "d", "c"), ("call", "a", "c"))
        self.assertEqual(states_of(board), ["rings", "waits"])
        self.check_refused(board, ("answer", "c", 1), "full")
        self.assertIsNone(refusal(board, ("answer", "c", 0)))


class Hang(Deeds):
    def test_by_the_caller_while_it_rings(self):
        board = done(board_of(), ("call", "a", "g"))
        self.check(board, ("hang", "a", 0), ("over", 0, "left"))

    def test_by_the_caller_while_it_waits(self):
        board = done(board_of(("wait", "c")), ("call", "c", "d"), ("call", "a", "c"))
        self.check(board, ("hang", "a", 1), ("over", 1, "left"))

    def test_by_some_of_several_that_are_rung(self):
        board = done(board_of(), ("call", "a", "g"))
        self.check(board, ("hang", "f", 0), ("leaves", 0, "f"))
        self.assertEqual((board.calls[0].state, board.calls[0].at), ("rings", ["b", "c"]))
        self.check(board, ("hang", "b", 0), ("leaves", 0, "b"))
        self.check(board, ("hang", "c", 0), ("leaves", 0, "c"), ("over", 0, "refused"))
        self.assertEqual((board.calls[0].state, board.calls[0].word), ("over", "refused"))

    def test_by_the_one_that_is_rung(self):
        board = done(board_of(), ("call", "a", "b"))
        self.check(board, ("hang", "b", 0), ("leaves", 0, "b"), ("over", 0, "refused"))

    def test_by_the_phone_at_which_it_waits(self):
        board = done(board_of(("wait", "c")), ("call", "c", "d"), ("call", "a", "c"))
        self.check(board, ("hang", "c", 1), ("leaves", 1, "c"), ("over", 1, "refused"))

    def test_in_a_talk_of_two(self):
        for phone in "ab":
            board = done(board_of(), ("call", "a", "b"), ("answer", "b", 0))
            self.check(board, ("hang", phone, 0), ("over", 0, "done"))

    def test_in_a_talk_of_three(self):
        for phone, left in (("a", ["b", "f"]), ("b", ["a", "f"]), ("f", ["a", "b"])):
            board = done(
                board_of(), ("call", "a", "b"), ("answer", "b", 0), ("hold", "a", 0), ("call", "a", "f"),
                ("answer", "f", 1), ("join", "a", 0, 1),
            )
            self.check(board, ("hang", phone, 1), ("leaves", 1, phone))
            self.assertEqual((board.calls[1].state, board.calls[1].members), ("talks", left))
            self.check_refused(board, ("hang", phone, 1), "call")
            self.check(board, ("hang", left[0], 1), ("over", 1, "done"))

    def test_of_a_held_call(self):
        for holder in "ab":
            for phone in "ab":
                board = done(board_of(), ("call", "a", "b"), ("answer", "b", 0), ("hold", holder, 0))
                self.check(board, ("hang", phone, 0), ("over", 0, "done"))

    def test_no_such_call(self):
        board = done(board_of(), ("call", "a", "b"), ("call", "b", "c"))
        for number in NO_CALLS + (2, 3):
            self.check_each_refused(board, "call", ("hang", "a", number), ("hang", "b", number), ("hang", "c", number))
        self.check_refused(board_of(), ("hang", "a", 0), "call")

    def test_a_call_of_others(self):
        board = done(board_of(("wait", "c")), ("call", "c", "d"), ("call", "a", "c"))
        self.check_each_refused(board, "call", ("hang", "a", 0), ("hang", "b", 0), ("hang", "d", 1), ("hang", "e", 1))
        done(board, ("answer", "d", 0))
        self.check_each_refused(board, "call", ("hang", "a", 0), ("hang", "b", 0))
        done(board, ("hold", "d", 0))
        self.check_each_refused(board, "call", ("hang", "a", 0), ("hang", "b", 0))

    def test_a_call_that_is_over(self):
        rows = (
            [("call", "a", "b"), ("hang", "a", 0)],
            [("call", "a", "b"), ("hang", "b", 0)],
            [("call", "a", "b"), ("answer", "b", 0), ("hang", "a", 0)],
            [("call", "a", "a")],
        )
        for row in rows:
            board = done(board_of(), *row)
            self.check_each_refused(board, "call", ("hang", "a", 0), ("hang", "b", 0), ("hang", "c", 0))

    def test_a_call_that_was_merged(self):
        board = done(
            board_of(), ("call", "a", "b"), ("answer", "b", 0), ("hold", "a", 0), ("call", "a", "f"),
            ("answer", "f", 1), ("hand", "a", 0, 1),
        )
        self.check_each_refused(board, "call", ("hang", "a", 0), ("hang", "b", 0), ("hang", "a", 1))
        self.check(board, ("hang", "b", 1), ("over", 1, "done"))

    def test_by_a_phone_that_answered_another(self):
        board = done(board_of(), ("call", "a", "g"), ("answer", "f", 0))
        self.check_each_refused(board, "call", ("hang", "b", 0), ("hang", "c", 0))

    def test_by_one_that_is_bound_or_calls(self):
        board = done(board_of(), ("call", "a", "b"), ("answer", "b", 0), ("call", "d", "b"))
        self.check(board, ("hang", "b", 1), ("leaves", 1, "b"), ("over", 1, "refused"))
        board = done(board_of(), ("call", "b", "e"), ("call", "d", "b"))
        self.check(board, ("hang", "b", 1), ("leaves", 1, "b"), ("over", 1, "refused"))


class Hold(Deeds):
    def test_by_either(self):
        for phone in "ab":
            board = done(board_of(), ("call", "a", "b"), ("answer", "b", 0))
            self.check(board, ("hold", phone, 0), ("held", 0, phone))
            self.assertEqual((board.calls[0].holder, board.calls[0].members), (phone, ["a", "b"]))

    def test_of_two_that_are_left_of_three(self):
        board = done(
            board_of(), ("call", "a", "b"), ("answer", "b", 0), ("hold", "a", 0), ("call", "a", "f"),
            ("answer", "f", 1), ("join", "a", 0, 1), ("hang", "a", 1),
        )
        self.check_refused(board, ("hold", "a", 1), "call")
        self.check(board, ("hold", "f", 1), ("held", 1, "f"))

    def test_no_such_call(self):
        board = done(board_of(), ("call", "a", "b"), ("answer", "b", 0))
        for number in NO_CALLS + (1, 2):
            self.check_each_refused(board, "call", ("hold", "a", number), ("hold", "b", number))

    def test_a_talk_of_others(self):
        board = done(board_of(), ("call", "a", "b"), ("answer", "b", 0))
        self.check_each_refused(board, "call", ("hold", "c", 0), ("hold", "f", 0))

    def test_a_talk_of_three(self):
        board = done(
            board_of(), ("call", "a", "b"), ("answer", "b", 0), ("hold", "a", 0), ("call", "a", "f"),
            ("answer", "f", 1), ("join", "a", 0, 1),
        )
        self.check_each_refused(board, "call", ("hold", "a", 1), ("hold", "b", 1), ("hold", "f", 1))

    def test_a_call_in_another_state(self):
        board = done(board_of(("wait", "c")), ("call", "c", "d"), ("call", "a", "c"))
        self.check_each_refused(board, "call", ("hold", "c", 0), ("hold", "d", 0), ("hold", "a", 1), ("hold", "c", 1))
        done(board, ("answer", "d", 0), ("hold", "d", 0))
        self.check_each_refused(board, "call", ("hold", "c", 0), ("hold", "d", 0))
        done(board, ("hang", "d", 0))
        self.check_each_refused(board, "call", ("hold", "c", 0), ("hold", "d", 0))


class Back(Deeds):
    def test_by_the_holder(self):
        for phone in "ab":
            board = done(board_of(), ("call", "a", "b"), ("answer", "b", 0), ("hold", phone, 0))
            self.check(board, ("back", phone, 0), ("talks", 0, ("a", "b")))
            self.assertIsNone(board.calls[0].holder)

    def test_members_stay_in_their_order(self):
        board = done(
            board_of(), ("call", "a", "f"), ("answer", "f", 0), ("hold", "a", 0), ("call", "a", "b"),
            ("answer", "b", 1), ("hand", "a", 0, 1), ("hold", "b", 1),
        )
        self.check(board, ("back", "b", 1), ("talks", 1, ("f", "b")))

    def test_with_its_last_line(self):
        board = done(board_of(), ("call", "c", "d"), ("answer", "d", 0), ("hold", "c", 0))
        self.check(board, ("back", "c", 0), ("talks", 0, ("c", "d")))

    def test_by_another(self):
        board = done(board_of(), ("call", "a", "b"), ("answer", "b", 0), ("hold", "a", 0))
        self.check_each_refused(board, "call", ("back", "b", 0), ("back", "c", 0))

    def test_no_such_call(self):
        board = done(board_of(), ("call", "a", "b"), ("answer", "b", 0), ("hold", "a", 0))
        for number in NO_CALLS + (1, 2):
            self.check_refused(board, ("back", "a", number), "call")

    def test_a_call_in_another_state(self):
        board = done(board_of(("wait", "c")), ("call", "c", "d"), ("call", "a", "c"))
        self.check_each_refused(board, "call", ("back", "c", 0), ("back", "d", 0), ("back", "a", 1), ("back", "c", 1))
        done(board, ("answer", "d", 0))
        self.check_each_refused(board, "call", ("back", "c", 0), ("back", "d", 0))
        done(board, ("hold", "d", 0), ("back", "d", 0))
        self.check_each_refused(board, "call", ("back", "c", 0), ("back", "d", 0))
        done(board, ("hold", "c", 0), ("hang", "d", 0))
        self.check_each_refused(board, "call", ("back", "c", 0), ("back", "d", 0))

    def test_call_ahead_of_bound_and_calls(self):
        board = done(
            board_of(), ("call", "a", "b"), ("answer", "b", 0), ("hold", "a", 0), ("call", "a", "f"),
        )
        self.check_each_refused(board, "call", ("back", "b", 0), ("back", "a", 1), ("back", "a", 2))
        done(board, ("answer", "f", 1))
        self.check_each_refused(board, "call", ("back", "a", 1), ("back", "f", 1), ("back", "f", 0))

    def test_bound(self):
        board = done(
            board_of(), ("call", "a", "b"), ("answer", "b", 0), ("hold", "a", 0), ("call", "a", "f"),
            ("answer", "f", 1),
        )
        self.check_refused(board, ("back", "a", 0), "bound")
        done(board, ("hold", "f", 1))
        self.check_refused(board, ("back", "a", 0), "bound")
        done(board, ("back", "f", 1), ("hold", "a", 1))
        self.check(board, ("back", "a", 0), ("talks", 0, ("a", "b")))

    def test_calls(self):
        board = done(board_of(), ("call", "a", "b"), ("answer", "b", 0), ("hold", "a", 0), ("call", "a", "f"))
        self.check_refused(board, ("back", "a", 0), "calls")
        done(board, ("hang", "a", 1))
        self.check(board, ("back", "a", 0), ("talks", 0, ("a", "b")))


class HandAndJoin(Deeds):
    def two_calls(self):
        """Call 0 of a and b is held by a, call 1 of f and a talks."""
        return done(
            board_of(), ("call", "a", "b"), ("answer", "b", 0), ("hold", "a", 0), ("call", "f", "a"),
            ("answer", "a", 1),
        )

    def check_both_refused(self, board, phone, held, talk):
        self.check_each_refused(board, "call", ("hand", phone, held, talk), ("join", phone, held, talk))

    def test_hand(self):
        board = self.two_calls()
        self.check(board, ("hand", "a", 0, 1), ("merge", 0, 1, ("b", "f")))
        self.assertEqual((board.calls[0].state, board.calls[0].word), ("over", "merged"))
        self.assertEqual((board.calls[1].state, board.calls[1].members), ("talks", ["b", "f"]))
        self.assertEqual(board.legs, [(1, "a", "b", "a"), (1, "f", "a", "f")])
        self.assertEqual(board.used("a"), 0)

    def test_join(self):
        board = self.two_calls()
        self.check(board, ("join", "a", 0, 1), ("merge", 0, 1, ("a", "b", "f")))
        self.assertEqual((board.calls[1].state, board.calls[1].members), ("talks", ["a", "b", "f"]))
        self.assertEqual(board.legs, [(1, "a", "b", "a"), (1, "f", "a", "f")])
        self.assertEqual(board.used("a"), 1)

    def test_whoever_called_whom(self):
        for first in (("call", "a", "b"), ("call", "b", "a")):
            for second in (("call", "a", "f"), ("call", "f", "a")):
                row = [
                    first, ("answer", first[2], 0), ("hold", "a", 0), second, ("answer", second[2], 1),
                ]
                self.check(done(board_of(), *row), ("hand", "a", 0, 1), ("merge", 0, 1, ("b", "f")))
                self.check(done(board_of(), *row), ("join", "a", 0, 1), ("merge", 0, 1, ("a", "b", "f")))

    def test_the_later_call_is_held(self):
        row = [
            ("call", "a", "b"), ("answer", "b", 0), ("hold", "a", 0), ("call", "a", "f"), ("answer", "f", 1),
            ("hold", "a", 1), ("back", "a", 0),
        ]
        self.check(done(board_of(), *row), ("hand", "a", 1, 0), ("merge", 1, 0, ("f", "b")))
        self.check(done(board_of(), *row), ("join", "a", 1, 0), ("merge", 1, 0, ("a", "f", "b")))

    def test_no_such_call(self):
        board = self.two_calls()
        for number in NO_CALLS + (2, 3):
            self.check_both_refused(board, "a", number, 1)
            self.check_both_refused(board, "a", 0, number)
            self.check_both_refused(board, "a", number, number)

    def test_the_same_call_twice(self):
        board = self.two_calls()
        self.check_both_refused(board, "a", 0, 0)
        self.check_both_refused(board, "a", 1, 1)

    def test_the_other_way_round(self):
        self.check_both_refused(self.two_calls(), "a", 1, 0)

    def test_by_another(self):
        board = self.two_calls()
        for phone in "bfc":
            self.check_both_refused(board, phone, 0, 1)

    def test_held_by_the_other(self):
        board = done(
            board_of(), ("call", "a", "b"), ("answer", "b", 0), ("hold", "a", 0), ("call", "a", "f"),
            ("answer", "f", 1), ("hold", "a", 1), ("back", "a", 0), ("hold", "b", 0),
        )
        self.check_both_refused(board, "a", 0, 1)
        self.check_both_refused(board, "a", 1, 0)
        self.check_both_refused(board, "b", 0, 1)

    def test_both_held(self):
        board = done(self.two_calls(), ("hold", "a", 1))
        self.check_both_refused(board, "a", 0, 1)
        self.check_both_refused(board, "a", 1, 0)

    def test_the_second_rings(self):
        board = done(board_of(), ("call", "a", "b"), ("answer", "b", 0), ("hold", "a", 0), ("call", "a", "f"))
        self.check_both_refused(board, "a", 0, 1)
        self.check_both_refused(board, "a", 1, 0)

    def test_the_second_waits(self):
        board = done(
            board_of(("wait", "c")), ("call", "a", "b"), ("answer", "b", 0), ("hold", "a", 0), ("call", "c", "d"),
            ("call", "a", "c"),
        )
        self.assertEqual(states_of(board), ["held", "rings", "waits"])
        self.check_both_refused(board, "a", 0, 2)
        self.check_both_refused(board, "a", 2, 0)

    def test_one_is_over(self):
        board = done(self.two_calls(), ("hang", "f", 1))
        self.check_both_refused(board, "a", 0, 1)
        board = done(self.two_calls(), ("hang", "b", 0))
        self.check_both_refused(board, "a", 0, 1)

    def test_a_talk_of_others(self):
        board = done(board_of(), ("call", "a", "b"), ("answer", "b", 0), ("hold", "a", 0), ("call", "c", "d"),
                     ("answer", "d", 1))
        self.check_both_refused(board, "a", 0, 1)

    def test_a_talk_of_three(self):
        board = done(
            self.two_calls(), ("hold", "a", 1), ("call", "a", "c"), ("answer", "c", 2), ("join", "a", 1, 2),
        )
        self.assertEqual(states_of(board), ["held", "over", "talks"])
        self.check_both_refused(board, "a", 0, 2)
        done(board, ("hang", "f", 2))
        self.check(board, ("join", "a", 0, 2), ("merge", 0, 2, ("a", "b", "c")))

    def test_a_caller_that_handed_over_is_a_stranger(self):
        board = done(self.two_calls(), ("hand", "a", 0, 1))
        self.check_each_refused(board, "call", ("hang", "a", 1), ("hold", "a", 1), ("back", "a", 1))
        self.check_both_refused(board, "a", 0, 1)
        self.assertIsNone(refusal(board, ("call", "a", "c")))


class OnAndOff(Deeds):
    def board(self):
        wishes = [(True, ("always", "a", "b")), (False, ("wait", "b")), (True, ("breaks", "e"))]
        return Board(Plan(PHONES, GROUPS, wishes), 12)

    def test_off(self):
        board = self.board()
        self.check(board, ("off", 0), ("off", 0))
        self.assertEqual(board.on, [False, False, True])
        self.check_refused(board, ("off", 0), "wish")
        self.check(board, ("on", 0), ("on", 0))
        self.assertEqual(board.on, [True, False, True])

    def test_on(self):
        board = self.board()
        self.check(board, ("on", 1), ("on", 1))
        self.assertEqual(board.on, [True, True, True])
        self.check_refused(board, ("on", 1), "wish")
        self.check(board, ("off", 1), ("off", 1))

    def test_already(self):
        board = self.board()
        self.check_each_refused(board, "wish", ("on", 0), ("off", 1), ("on", 2))

    def test_no_such_wish(self):
        board = self.board()
        for number in NO_CALLS + (-3, 3, 4, 16):
            self.check_each_refused(board, "wish", ("on", number), ("off", number))
        for number in NO_CALLS + (0,):
            self.check_each_refused(board_of(), "wish", ("on", number), ("off", number))

    def test_the_plan_stays(self):
        board = self.board()
        done(board, ("off", 0), ("on", 1))
        self.assertEqual(board.plan.on, [True, False, True])

    def test_act_at_once(self):
        board = done(self.board(), ("call", "c", "a"))
        self.assertEqual(board.calls[0].way, ["a", "b"])
        done(board, ("hang", "c", 0), ("off", 0), ("call", "c", "a"))
        self.assertEqual(board.calls[1].way, ["a"])

    def test_a_call_that_is_there_stays(self):
        board = done(self.board(), ("call", "c", "a"))
        before = picture(board)
        done(board, ("off", 0))
        self.assertEqual(picture(board)[:3], before[:3])


class Turn(Deeds):
    def test_on_a_new_board(self):
        board = board_of()
        self.check(board, ("turn",), ("turn",))
        self.assertEqual((board.turn, board.hour_now()), (1, 13))

    def test_is_never_refused(self):
        board = done(
            board_of(("wait", "c")), ("call", "c", "d"), ("answer", "d", 0), ("call", "a", "c"), ("call", "e", "b"),
        )
        for turn in range(30):
            self.check(board, ("turn",), ("turn",))
        self.assertEqual([call.since for call in board.calls], [0, 0, 30])


class Told(Deeds):
    row = [
        ("call", "a", "g"), ("turn",), ("hang", "f", 0), ("answer", "b", 0), ("hold", "a", 0), ("off", 0),
        ("call", "a", "t"), ("answer", "d", 1), ("join", "a", 0, 1), ("hang", "b", 1), ("hang", "a", 1), ("on", 0),
    ]

    def test_the_log_is_all_told_lists(self):
        board = board_of(("always", "c", "d"))
        log = []
        for deed in self.row:
            log.extend(do(board, deed))
            self.assertEqual(board.log, log)

    def test_a_told_list_that_is_changed(self):
        board, other = board_of(("always", "c", "d")), board_of(("always", "c", "d"))
        for deed in self.row:
            told = do(board, deed)
            self.assertEqual(told, do(other, deed))
            told.append(("over", 0, "done"))
            told[0] = ("new", 9, "zz")
            self.assertEqual(whole(board), whole(other))
            told.clear()
            self.assertEqual(whole(board), whole(other))

    def test_no_two_are_one(self):
        board = board_of(("always", "c", "d"))
        told = [do(board, deed) for deed in self.row]
        kept = copy.deepcopy(told)
        self.assertEqual(len({id(one) for one in told + [board.log]}), len(told) + 1)
        done(board, ("call", "a", "d"), ("turn",))
        self.assertEqual(told, kept)

    def test_events_hold_tuples_alone(self):
        def look(thing):
            self.assertIsInstance(thing, (tuple, str, int))
            if isinstance(thing, tuple):
                for part in thing:
                    look(part)

        board = done(board_of(("always", "c", "d")), *self.row)
        for event in board.log:
            look(event)

    def test_what_a_board_was_made_of_stays(self):
        phones, groups, wishes = list(PHONES), list(GROUPS), [(True, ("always", "c", "d"))]
        plan = Plan(phones, groups, wishes)
        board = done(Board(plan, 12), *self.row)
        fresh = Plan(PHONES, GROUPS, [(True, ("always", "c", "d"))])
        self.assertEqual((phones, groups, wishes), (PHONES, GROUPS, [(True, ("always", "c", "d"))]))
        self.assertEqual((plan.phones, plan.groups, plan.on), (fresh.phones, fresh.groups, fresh.on))
        self.assertEqual([wish.told() for wish in plan.wishes], [("always", "c", "d")])
        self.assertIs(board.plan, plan)

    def test_two_boards_of_one_plan(self):
        plan = Plan(PHONES, GROUPS, [(True, ("always", "c", "d"))])
        one, other = Board(plan, 12), Board(plan, 12)
        new = whole(other)
        done(one, *self.row)
        self.assertEqual(whole(other), new)
        done(other, *self.row)
        self.assertEqual(whole(other), whole(one))


class States(Deeds):
    """Calls 0 to 4, in the five states, each deed at each of them."""

    def board(self):
        board = done(
            board_of(("wait", "h")), ("call", "h", "a"), ("call", "e", "h"), ("call", "b", "c"), ("answer", "c", 2),
            ("call", "d", "f"), ("answer", "f", 3), ("hold", "f", 3), ("call", "f", "f"),
        )
        self.assertEqual(states_of(board), ["rings", "waits", "talks", "held", "over"])
        return board

    def doable(self, word, *further):
        board = self.board()
        found = []
        for phone, lines, rank in PHONES:
            for number in range(-2, 7):
                told = refusal(board, (word, phone, number) + further)
                if told is None:
                    found.append((phone, number))
                else:
                    self.check_refused(board, (word, phone, number) + further, told)
        return found

    def test_answer(self):
        self.assertEqual(self.doable("answer"), [("a", 0)])
        self.check_refused(self.board(), ("answer", "h", 1), "calls")

    def test_hang(self):
        expected = [("a", 0), ("b", 2), ("c", 2), ("d", 3), ("e", 1), ("f", 3), ("h", 0), ("h", 1)]
        self.assertEqual(self.doable("hang"), expected)

    def test_hold(self):
        self.assertEqual(self.doable("hold"), [("b", 2), ("c", 2)])

    def test_back(self):
        self.assertEqual(self.doable("back"), [("f", 3)])

    def test_hand_and_join(self):
        for number in range(-2, 7):
            self.assertEqual(self.doable("hand", number), [])
            self.assertEqual(self.doable("join", number), [])

    def test_call(self):
        board = self.board()
        words = [refusal(board, ("call", phone, "a")) for phone, lines, rank in PHONES]
        self.assertEqual(words, [None, "bound", "bound", "bound", "calls", None, "calls"])


if __name__ == "__main__":
    unittest.main()
