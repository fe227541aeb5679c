"""How a call goes on by its route, when it is made and when a turn sends it on."""

import unittest

from callboard.board import Board, picture
from callboard.deeds import do
from callboard.plans import Plan

PHONES = [("a", 3, 5), ("b", 2, 4), ("c", 1, 3), ("d", 1, 2), ("e", 1, 9), ("f", 2, 0), ("h", 1, 1)]
GROUPS = [("t", "turns", ("d", "c", "b")), ("g", "all", ("b", "f", "c")), ("s", "turns", ("h",))]


def board_of(*wishes, hour=12, off=()):
    plan = Plan(PHONES, GROUPS, [(i not in off, wish) for i, wish in enumerate(wishes)])
    return Board(plan, hour)


def done(board, *deeds):
    for deed in deeds:
        do(board, deed)
    return board


class GoingOn(unittest.TestCase):
    def check(self, board, deed, *events):
        begun = list(board.log)
        self.assertEqual(do(board, deed), list(events))
        self.assertEqual(board.log, begun + list(events))

    def check_call(self, board, caller, target, *events):
        """The events of a call behind the first two, which are the same for all."""
        number = len(board.calls)
        first = (("new", number, caller), ("leg", number, caller, target, caller))
        self.check(board, ("call", caller, target), *(first + events))
        return board.calls[number]


class Rings(GoingOn):
    def test_at_a_phone(self):
        call = self.check_call(board_of(), "a", "b", ("asks", 0, "b", ()), ("rings", 0, ("b",)))
        self.assertEqual((call.state, call.way, call.at, call.since), ("rings", ["b"], ["b"], 0))

    def test_at_a_group_of_all(self):
        board = board_of()
        self.check_call(board, "a", "g", ("asks", 0, "g", ()), ("rings", 0, ("b", "f", "c")))
        self.check_call(board, "d", "g", ("asks", 1, "g", ()), ("rings", 1, ("b", "f")))
        self.check_call(board, "e", "g", ("asks", 2, "g", ()), ("over", 2, "engaged"))

    def test_at_a_group_of_all_but_the_caller(self):
        self.check_call(board_of(), "f", "g", ("asks", 0, "g", ()), ("rings", 0, ("b", "c")))

    def test_at_a_group_in_turns(self):
        board = board_of()
        self.check_call(board, "a", "t", ("asks", 0, "t", ()), ("next", "t", 1), ("rings", 0, ("d",)))
        self.assertEqual(board.nexts, {"t": 1, "s": 0})
        done(board, ("hang", "a", 0))
        self.check_call(board, "a", "t", ("asks", 1, "t", ()), ("next", "t", 2), ("rings", 1, ("c",)))
        done(board, ("hang", "a", 1))
        self.check_call(board, "a", "t", ("asks", 2, "t", ()), ("next", "t", 0), ("rings", 2, ("b",)))
        done(board, ("hang", "a", 2))
        self.check_call(board, "a", "t", ("asks", 3, "t", ()), ("next", "t", 1), ("rings", 3, ("d",)))

    def test_the_place_is_the_one_behind_the_phone(self):
        board = done(board_of(), ("call", "e", "d"), ("call", "h", "c"))
        self.check_call(board, "a", "t", ("asks", 2, "t", ()), ("next", "t", 0), ("rings", 2, ("b",)))
        done(board, ("hang", "a", 2), ("hang", "h", 1))
        self.check_call(board, "a", "t", ("asks", 3, "t", ()), ("next", "t", 2), ("rings", 3, ("c",)))
        done(board, ("hang", "a", 3), ("hang", "e", 0), ("call", "h", "c"))
        self.check_call(board, "f", "t", ("asks", 5, "t", ()), ("next", "t", 0), ("rings", 5, ("b",)))

    def test_in_turns_the_caller_is_passed_over(self):
        board = board_of()
        self.check_call(board, "d", "t", ("asks", 0, "t", ()), ("next", "t", 2), ("rings", 0, ("c",)))

    def test_in_turns_of_one_member(self):
        board = board_of()
        self.check_call(board, "a", "s", ("asks", 0, "s", ()), ("next", "s", 0), ("rings", 0, ("h",)))
        self.assertEqual(board.nexts, {"t": 0, "s": 0})

    def test_in_turns_where_all_are_busy_the_place_stays(self):
        board = done(board_of(), ("call", "a", "h"))
        self.check_call(board, "b", "s", ("asks", 1, "s", ()), ("over", 1, "engaged"))

    def test_a_member_by_itself_leaves_the_place(self):
        board = board_of()
        self.check_call(board, "a", "d", ("asks", 0, "d", ()), ("rings", 0, ("d",)))
        self.assertEqual(board.nexts, {"t": 0, "s": 0})

    def test_behind_other_steps(self):
        board = board_of(("always", "a", "f"), ("busy", "e", "t"), ("always", "f", "e"))
        done(board, ("call", "e", "h"))
        call = self.check_call(
            board, "c", "a",
            ("asks", 1, "a", (0,)), ("leg", 1, "a", "f", "a"),
            ("asks", 1, "f", (2,)), ("leg", 1, "f", "e", "f"),
            ("asks", 1, "e", (1,)), ("leg", 1, "e", "t", "e"),
            ("asks", 1, "t", ()), ("next", "t", 1), ("rings", 1, ("d",)),
        )
        self.assertEqual(call.way, ["a", "f", "e", "t"])
        legs = [(1, "c", "a", "c"), (1, "a", "f", "a"), (1, "f", "e", "f"), (1, "e", "t", "e")]
        self.assertEqual(board.legs[1:], legs)


class OtherEnds(GoingOn):
    def test_engaged(self):
        board = done(board_of(), ("call", "a", "c"))
        call = self.check_call(board, "d", "c", ("asks", 1, "c", ()), ("over", 1, "engaged"))
        self.assertEqual((call.state, call.word, call.way), ("over", "engaged", ["c"]))

    def test_engaged_behind_another_step(self):
        board = done(board_of(("busy", "c", "d")), ("call", "a", "c"), ("call", "e", "d"))
        self.check_call(
            board, "h", "c",
            ("asks", 2, "c", (0,)), ("leg", 2, "c", "d", "c"), ("asks", 2, "d", ()), ("over", 2, "engaged"),
        )

    def test_engaged_at_its_own_caller(self):
        self.check_call(
            board_of(("always", "b", "a")), "a", "b",
            ("asks", 0, "b", (0,)), ("leg", 0, "b", "a", "b"), ("asks", 0, "a", ()), ("over", 0, "engaged"),
        )

    def test_barred(self):
        self.check_call(board_of(("bar", "a", ("b",))), "a", "b", ("asks", 0, "b", (0,)), ("over", 0, "barred"))
        self.check_call(board_of(("shut", "b", ("a",))), "a", "b", ("asks", 0, "b", (0,)), ("over", 0, "barred"))

    def test_barred_behind_another_step(self):
        board = board_of(("always", "g", "b"), ("bar", "a", ("b",)), ("shut", "b", ("a", "c")))
        self.check_call(
            board, "a", "g",
            ("asks", 0, "g", (0,)), ("leg", 0, "g", "b", "g"), ("asks", 0, "b", (1, 2)), ("over", 0, "barred"),
        )

    def test_waits(self):
        board = done(board_of(("wait", "c")), ("call", "c", "d"))
        call = self.check_call(board, "a", "c", ("asks", 1, "c", (0,)), ("waits", 1, "c"))
        self.assertEqual((call.state, call.at), ("waits", ["c"]))
        self.check_call(board, "b", "c", ("asks", 2, "c", ()), ("over", 2, "engaged"))

    def test_waits_behind_another_step(self):
        board = done(board_of(("wait", "c"), ("always", "b", "c")), ("call", "c", "d"))
        self.check_call(
            board, "a", "b",
            ("asks", 1, "b", (1,)), ("leg", 1, "b", "c", "b"), ("asks", 1, "c", (0,)), ("waits", 1, "c"),
        )

    def test_breaks(self):
        board = done(board_of(("breaks", "e")), ("call", "c", "d"), ("answer", "d", 0))
        call = self.check_call(board, "e", "d", ("asks", 1, "d", (0,)), ("merge", 1, 0, ("c", "d", "e")))
        self.assertEqual((call.state, call.word, call.way), ("over", "merged", ["d"]))
        self.assertEqual((board.calls[0].state, board.calls[0].members), ("talks", ["c", "d", "e"]))
        self.assertEqual(board.legs, [(0, "c", "d", "c"), (0, "e", "d", "e")])
        self.assertEqual((board.used("e"), board.bound("e"), board.calling("e")), (1, 0, None))

    def test_breaks_into_the_talk_of_the_target(self):
        board = done(
            board_of(("breaks", "e")), ("call", "a", "f"), ("answer", "f", 0), ("call", "c", "d"), ("answer", "d", 1),
        )
        self.check_call(board, "e", "c", ("asks", 2, "c", (0,)), ("merge", 2, 1, ("c", "d", "e")))

    def test_members_of_the_talk_in_their_order(self):
        board = done(
            board_of(("breaks", "e")), ("call", "c", "a"), ("answer", "a", 0), ("hold", "a", 0), ("call", "a", "d"),
            ("answer", "d", 1), ("hold", "a", 1), ("back", "a", 0), ("hand", "a", 1, 0),
        )
        self.check_call(board, "e", "c", ("asks", 2, "c", (0,)), ("merge", 2, 0, ("d", "c", "e")))

    def test_breaks_behind_another_step(self):
        board = done(board_of(("always", "b", "c"), ("breaks", "e")), ("call", "c", "d"), ("answer", "d", 0))
        self.check_call(
            board, "e", "b",
            ("asks", 1, "b", (0,)), ("leg", 1, "b", "c", "b"), ("asks", 1, "c", (1,)), ("merge", 1, 0, ("c", "d", "e")),
        )
        self.assertEqual(board.legs, [(0, "c", "d", "c"), (0, "e", "b", "e"), (0, "b", "c", "b")])

    def test_all_that_fit_are_told_and_the_first_acts(self):
        board = done(
            board_of(("wait", "c"), ("breaks", "e"), ("always", "c", "b"), ("bar", "a", ("c",)), ("busy", "c", "d")),
            ("off", 2), ("call", "c", "d"), ("answer", "d", 0),
        )
        self.check_call(board, "e", "c", ("asks", 1, "c", (0, 1, 4)), ("waits", 1, "c"))
        done(board, ("hang", "e", 1), ("off", 0))
        self.check_call(board, "e", "c", ("asks", 2, "c", (1, 4)), ("merge", 2, 0, ("c", "d", "e")))

    def test_by_the_hour(self):
        wish = ("night", "b", "c", 22, 6)
        self.check_call(board_of(wish, hour=21), "a", "b", ("asks", 0, "b", ()), ("rings", 0, ("b",)))
        board = done(board_of(wish, hour=21), ("turn",))
        self.check_call(
            board, "a", "b",
            ("asks", 0, "b", (0,)), ("leg", 0, "b", "c", "b"), ("asks", 0, "c", ()), ("rings", 0, ("c",)),
        )


class Ring(GoingOn):
    def test_of_two(self):
        call = self.check_call(
            board_of(("always", "b", "c"), ("always", "c", "b")), "a", "b",
            ("asks", 0, "b", (0,)), ("leg", 0, "b", "c", "b"), ("asks", 0, "c", (1,)), ("leg", 0, "c", "b", "c"),
            ("over", 0, "ring"),
        )
        self.assertEqual((call.state, call.word, call.way), ("over", "ring", ["b", "c", "b"]))

    def test_that_begins_behind_the_first(self):
        board = board_of(("always", "b", "c"), ("always", "c", "g"), ("always", "g", "d"), ("always", "d", "c"))
        call = self.check_call(
            board, "a", "b",
            ("asks", 0, "b", (0,)), ("leg", 0, "b", "c", "b"), ("asks", 0, "c", (1,)), ("leg", 0, "c", "g", "c"),
            ("asks", 0, "g", (2,)), ("leg", 0, "g", "d", "g"), ("asks", 0, "d", (3,)), ("leg", 0, "d", "c", "d"),
            ("over", 0, "ring"),
        )
        self.assertEqual(call.way, ["b", "c", "g", "d", "c"])

    def test_the_caller_is_no_part_of_it(self):
        board = done(board_of(("busy", "a", "b"), ("always", "b", "a")))
        self.check_call(
            board, "a", "a",
            ("asks", 0, "a", (0,)), ("leg", 0, "a", "b", "a"), ("asks", 0, "b", (1,)), ("leg", 0, "b", "a", "b"),
            ("over", 0, "ring"),
        )

    def test_of_a_turn_without_steps(self):
        board = done(board_of(("always", "b", "c"), ("silent", "c", "b", 1)), ("call", "a", "b"))
        self.check(
            board, ("turn",),
            ("turn",), ("asks", 0, "c", (1,)), ("quiet", 0), ("leg", 0, "c", "b", "c"), ("over", 0, "ring"),
        )
        self.assertEqual(board.calls[0].way, ["b", "c", "b"])

    def test_of_a_turn_with_steps(self):
        board = board_of(("always", "b", "c"), ("silent", "c", "d", 1), ("always", "d", "g"), ("always", "g", "c"))
        done(board, ("call", "a", "b"))
        self.check(
            board, ("turn",),
            ("turn",), ("asks", 0, "c", (1,)), ("quiet", 0), ("leg", 0, "c", "d", "c"), ("asks", 0, "d", (2,)),
            ("leg", 0, "d", "g", "d"), ("asks", 0, "g", (3,)), ("leg", 0, "g", "c", "g"), ("over", 0, "ring"),
        )
        self.assertEqual(board.calls[0].way, ["b", "c", "d", "g", "c"])

    def test_of_several_turns(self):
        board = done(board_of(("silent", "b", "c", 1), ("silent", "c", "b", 2)), ("call", "a", "b"), ("turn",))
        self.assertEqual((board.calls[0].way, board.calls[0].at), (["b", "c"], ["c"]))
        self.check(board, ("turn",), ("turn",))
        self.check(
            board, ("turn",),
            ("turn",), ("asks", 0, "c", (1,)), ("quiet", 0), ("leg", 0, "c", "b", "c"), ("over", 0, "ring"),
        )


class Silence(GoingOn):
    def sent(self, number, fits):
        """The events of a turn that sends a call on from b to c."""
        first = (("asks", number, "b", fits), ("quiet", number), ("leg", number, "b", "c", "b"))
        return (("turn",),) + first + (("asks", number, "c", ()), ("rings", number, ("c",)))

    def test_for_n_turns(self):
        for n in range(1, 10):
            board = done(board_of(("silent", "b", "c", n)), ("call", "a", "b"))
            for turn in range(1, n):
                self.check(board, ("turn",), ("turn",))
                self.assertEqual(board.calls[0].since, turn)
            self.check(board, ("turn",), *self.sent(0, (0,)))
            call = board.calls[0]
            self.assertEqual((call.state, call.at, call.way, call.since), ("rings", ["c"], ["b", "c"], 0))
            self.check(board, ("turn",), ("turn",))
            self.assertEqual(call.since, 1)

    def test_for_more_turns_than_n(self):
        board = done(board_of(("silent", "b", "c", 2), off=(0,)), ("call", "a", "b"))
        for turn in range(5):
            self.check(board, ("turn",), ("turn",))
        done(board, ("on", 0))
        self.check(board, ("turn",), *self.sent(0, (0,)))

    def test_off(self):
        board = done(board_of(("silent", "b", "c", 1), off=(0,)), ("call", "a", "b"))
        for turn in range(12):
            self.check(board, ("turn",), ("turn",))
        board = done(board_of(("silent", "b", "c", 3)), ("call", "a", "b"), ("turn",), ("turn",), ("off", 0))
        self.check(board, ("turn",), ("turn",))
        self.assertEqual(board.calls[0].since, 3)

    def test_several_of_one_name(self):
        board = board_of(("silent", "b", "c", 3), ("silent", "b", "d", 2), ("silent", "b", "e", 3))
        done(board, ("call", "a", "b"), ("turn",))
        self.check(
            board, ("turn",),
            ("turn",), ("asks", 0, "b", (1,)), ("quiet", 0), ("leg", 0, "b", "d", "b"), ("asks", 0, "d", ()),
            ("rings", 0, ("d",)),
        )

    def test_several_that_are_due_at_once(self):
        board = board_of(
            ("always", "h", "b"), ("silent", "b", "c", 2), ("silent", "g", "d", 1), ("silent", "b", "d", 1),
            ("silent", "b", "e", 3), ("silent", "b", "e", 2), off=(3,),
        )
        done(board, ("call", "a", "b"), ("turn",), ("on", 3))
        self.check(board, ("turn",), *self.sent(0, (1, 3, 5)))

    def test_the_first_acts_whatever_its_turns(self):
        board = board_of(("silent", "b", "c", 3), ("silent", "b", "d", 1), off=(1,))
        done(board, ("call", "a", "b"), ("turn",), ("turn",), ("on", 1))
        self.check(board, ("turn",), *self.sent(0, (0, 1)))

    def test_others_than_silent_ones_do_not_act_on_what_rings(self):
        board = board_of(
            ("always", "b", "c"), ("night", "b", "c", 0, 23), ("busy", "b", "c"), ("shut", "b", ("a",)),
            ("bar", "a", ("b",)), ("wait", "b"), ("breaks", "a"), off=(0, 1, 2, 3, 4, 5, 6),
        )
        done(board, ("call", "a", "b"))
        for number in range(7):
            done(board, ("on", number))
        for turn in range(10):
            self.check(board, ("turn",), ("turn",))

    def test_by_the_ways_last_name_alone(self):
        board = board_of(("always", "d", "b"), ("silent", "d", "c", 1), ("silent", "a", "c", 1))
        done(board, ("call", "a", "d"))
        for turn in range(3):
            self.check(board, ("turn",), ("turn",))

    def test_of_a_group_and_not_of_its_member(self):
        board = done(board_of(("silent", "d", "e", 1), ("silent", "t", "e", 2)), ("call", "a", "t"))
        self.check(board, ("turn",), ("turn",))
        self.check(
            board, ("turn",),
            ("turn",), ("asks", 0, "t", (1,)), ("quiet", 0), ("leg", 0, "t", "e", "t"), ("asks", 0, "e", ()),
            ("rings", 0, ("e",)),
        )

    def test_of_a_phone_and_not_of_its_group(self):
        board = done(board_of(("silent", "g", "e", 1)), ("call", "a", "b"))
        self.check(board, ("turn",), ("turn",))

    def test_a_phone_that_leaves_does_not_end_the_silence(self):
        board = done(board_of(("silent", "g", "e", 2)), ("call", "a", "g"), ("turn",), ("hang", "b", 0))
        self.assertEqual(board.calls[0].since, 1)
        self.check(
            board, ("turn",),
            ("turn",), ("asks", 0, "g", (0,)), ("quiet", 0), ("leg", 0, "g", "e", "g"), ("asks", 0, "e", ()),
            ("rings", 0, ("e",)),
        )

    def test_what_does_not_ring_stays(self):
        wishes = [("silent", phone, "e", 1) for phone in "abcdfh"] + [("wait", "h")]
        board = done(
            board_of(*wishes), ("call", "a", "b"), ("answer", "b", 0), ("call", "c", "d"), ("answer", "d", 1),
            ("hold", "c", 1), ("call", "h", "e"), ("call", "f", "h"), ("hang", "h", 2), ("call", "h", "c"),
        )
        self.assertEqual([call.state for call in board.calls], ["talks", "held", "over", "waits", "over"])
        for turn in range(3):
            self.check(board, ("turn",), ("turn",))

    def test_the_phone_left_is_free_again(self):
        board = done(board_of(("silent", "c", "g", 1)), ("call", "a", "c"))
        self.check(
            board, ("turn",),
            ("turn",), ("asks", 0, "c", (0,)), ("quiet", 0), ("leg", 0, "c", "g", "c"), ("asks", 0, "g", ()),
            ("rings", 0, ("b", "f", "c")),
        )

    def test_behind_the_turn_in_its_hour(self):
        board = done(board_of(("silent", "b", "c", 1), ("night", "c", "d", 13, 14)), ("call", "a", "b"))
        self.check(
            board, ("turn",),
            ("turn",), ("asks", 0, "b", (0,)), ("quiet", 0), ("leg", 0, "b", "c", "b"), ("asks", 0, "c", (1,)),
            ("leg", 0, "c", "d", "c"), ("asks", 0, "d", ()), ("rings", 0, ("d",)),
        )


class SilenceEnds(GoingOn):
    """What a call comes to that a turn sends on from b to c."""

    def check_turn(self, board, number, fits, *events):
        first = (("turn",), ("asks", number, "b", fits), ("quiet", number), ("leg", number, "b", "c", "b"))
        self.check(board, ("turn",), *(first + events))

    def test_engaged(self):
        board = done(board_of(("silent", "b", "c", 1)), ("call", "a", "b"), ("call", "d", "c"))
        self.check_turn(board, 0, (0,), ("asks", 0, "c", ()), ("over", 0, "engaged"))

    def test_barred(self):
        board = done(board_of(("silent", "b", "c", 1), ("bar", "a", ("c",))), ("call", "a", "b"))
        self.check_turn(board, 0, (0,), ("asks", 0, "c", (1,)), ("over", 0, "barred"))

    def test_waits(self):
        board = done(board_of(("silent", "b", "c", 1), ("wait", "c")), ("call", "a", "b"), ("call", "d", "c"))
        self.check_turn(board, 0, (0,), ("asks", 0, "c", (1,)), ("waits", 0, "c"))
        self.assertEqual(board.calls[0].since, 1)
        self.check(board, ("turn",), ("turn",))
        self.assertEqual(board.calls[0].since, 1)

    def test_breaks(self):
        board = done(
            board_of(("silent", "b", "c", 1), ("breaks", "e")), ("call", "d", "c"), ("answer", "c", 0),
            ("call", "e", "b"),
        )
        self.check_turn(board, 1, (0,), ("asks", 1, "c", (1,)), ("merge", 1, 0, ("d", "c", "e")))
        self.assertEqual(board.legs, [(0, "d", "c", "d"), (0, "e", "b", "e"), (0, "b", "c", "b")])

    def test_rings_in_turns(self):
        board = done(board_of(("silent", "b", "c", 1), ("always", "c", "t")), ("call", "a", "b"))
        self.check_turn(
            board, 0, (0,), ("asks", 0, "c", (1,)), ("leg", 0, "c", "t", "c"), ("asks", 0, "t", ()), ("next", "t", 1),
            ("rings", 0, ("d",)),
        )

    def test_once_in_a_turn(self):
        board = done(board_of(("silent", "b", "c", 1), ("silent", "c", "d", 1)), ("call", "a", "b"))
        self.check_turn(board, 0, (0,), ("asks", 0, "c", ()), ("rings", 0, ("c",)))
        self.check(
            board, ("turn",),
            ("turn",), ("asks", 0, "c", (1,)), ("quiet", 0), ("leg", 0, "c", "d", "c"), ("asks", 0, "d", ()),
            ("rings", 0, ("d",)),
        )


class Several(GoingOn):
    def test_each_by_its_own_turns(self):
        board = done(board_of(("silent", "b", "c", 2)), ("call", "a", "b"), ("turn",), ("call", "d", "b"))
        self.check(
            board, ("turn",),
            ("turn",), ("asks", 0, "b", (0,)), ("quiet", 0), ("leg", 0, "b", "c", "b"), ("asks", 0, "c", ()),
            ("rings", 0, ("c",)),
        )
        self.assertEqual([call.since for call in board.calls], [0, 1])

    def test_the_first_takes_what_the_second_would_have(self):
        board = done(board_of(("silent", "b", "c", 1)), ("call", "a", "b"), ("call", "d", "b"))
        self.check(
            board, ("turn",),
            ("turn",), ("asks", 0, "b", (0,)), ("quiet", 0), ("leg", 0, "b", "c", "b"), ("asks", 0, "c", ()),
            ("rings", 0, ("c",)), ("asks", 1, "b", (0,)), ("quiet", 1), ("leg", 1, "b", "c", "b"),
            ("asks", 1, "c", ()), ("over", 1, "engaged"),
        )

    def test_the_first_leaves_what_the_second_takes(self):
        board = done(board_of(("silent", "c", "e", 1), ("silent", "b", "c", 1)), ("call", "a", "c"), ("call", "d", "b"))
        self.check(
            board, ("turn",),
            ("turn",), ("asks", 0, "c", (0,)), ("quiet", 0), ("leg", 0, "c", "e", "c"), ("asks", 0, "e", ()),
            ("rings", 0, ("e",)), ("asks", 1, "b", (1,)), ("quiet", 1), ("leg", 1, "b", "c", "b"),
            ("asks", 1, "c", ()), ("rings", 1, ("c",)),
        )

    def test_the_second_leaves_it_too_late_for_the_first(self):
        board = done(board_of(("silent", "c", "e", 1), ("silent", "b", "c", 1)), ("call", "d", "b"), ("call", "a", "c"))
        self.check(
            board, ("turn",),
            ("turn",), ("asks", 0, "b", (1,)), ("quiet", 0), ("leg", 0, "b", "c", "b"), ("asks", 0, "c", ()),
            ("over", 0, "engaged"), ("asks", 1, "c", (0,)), ("quiet", 1), ("leg", 1, "c", "e", "c"),
            ("asks", 1, "e", ()), ("rings", 1, ("e",)),
        )

    def test_places_in_turns_go_on(self):
        board = done(board_of(("silent", "b", "t", 1)), ("call", "a", "b"), ("call", "e", "b"), ("turn",))
        self.assertEqual([call.at for call in board.calls], [["d"], ["c"]])
        self.assertEqual(board.nexts["t"], 2)

    def test_others_between_them(self):
        board = done(
            board_of(("silent", "b", "c", 1)), ("call", "a", "f"), ("answer", "f", 0), ("call", "d", "e"),
            ("call", "h", "b"),
        )
        self.check(
            board, ("turn",),
            ("turn",), ("asks", 2, "b", (0,)), ("quiet", 2), ("leg", 2, "b", "c", "b"), ("asks", 2, "c", ()),
            ("rings", 2, ("c",)),
        )
        self.assertEqual([call.since for call in board.calls], [0, 1, 0])


class CutOff(GoingOn):
    def test_a_turn_on_a_board_that_has_the_first_event_alone(self):
        board = board_of(("silent", "b", "c", 1))
        board.apply(("new", 0, "a"))
        self.check(board, ("turn",), ("turn",))
        self.assertEqual(picture(board)[1], (("rings", "a", (), (), (), None, 1, None),))
        self.check(board, ("hang", "a", 0), ("over", 0, "left"))


if __name__ == "__main__":
    unittest.main()
