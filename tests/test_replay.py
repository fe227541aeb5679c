"""Boards that are made again from a log."""

import copy
import unittest

from callboard.board import Board, picture
from callboard.deeds import do
from callboard.plans import Plan
from callboard.replay import replayed

PHONES = [("a", 3, 5), ("b", 2, 4), ("c", 1, 3), ("d", 1, 2), ("e", 1, 9)]
GROUPS = [("t", "turns", ("d", "c", "b")), ("g", "all", ("b", "c"))]
WISHES = [
    (True, ("silent", "t", "g", 2)), (True, ("wait", "c")), (True, ("breaks", "e")), (False, ("always", "b", "a")),
    (True, ("night", "d", "b", 14, 16)),
]

# One of each of the ten deeds, and each end of a call but a ring.
DEEDS = [
    ("call", "a", "t"), ("turn",), ("turn",), ("call", "e", "t"), ("hang", "c", 0), ("answer", "b", 0),
    ("hold", "a", 0), ("call", "a", "c"), ("answer", "c", 2), ("hang", "e", 1), ("call", "e", "c"), ("on", 3),
    ("call", "d", "b"), ("hang", "a", 4), ("turn",), ("off", 3), ("hang", "e", 3), ("off", 1), ("call", "e", "c"),
    ("turn",), ("hang", "e", 2), ("hold", "c", 2), ("back", "c", 2), ("join", "a", 0, 2), ("hang", "b", 2),
    ("hold", "a", 2), ("call", "a", "e"), ("answer", "e", 6), ("hand", "a", 2, 6), ("turn",), ("hang", "e", 6),
]


def plan():
    return Plan(PHONES, GROUPS, WISHES)


def seen(board):
    return copy.deepcopy((picture(board), board.legs, board.log, board.hour_now()))


class Replayed(unittest.TestCase):
    def setUp(self):
        self.plan = plan()
        self.board = Board(self.plan, 12)
        self.stages = [seen(self.board)]
        for deed in DEEDS:
            do(self.board, deed)
            self.stages.append(seen(self.board))

    def test_every_deed_and_most_events_are_there(self):
        self.assertEqual(
            {deed[0] for deed in DEEDS}, set("call answer hang hold back hand join turn on off".split()),
        )
        self.assertEqual(
            {event[0] for event in self.board.log},
            set("new leg asks next rings quiet waits talks held leaves merge over turn on off".split()),
        )

    def test_an_empty_log(self):
        board = replayed(self.plan, 12, [])
        self.assertIsInstance(board, Board)
        self.assertEqual(seen(board), self.stages[0])

    def test_a_whole_log(self):
        self.assertEqual(seen(replayed(self.plan, 12, self.board.log)), self.stages[-1])
        self.assertEqual(seen(replayed(plan(), 12, list(self.board.log))), self.stages[-1])

    def test_each_stage(self):
        for stage in self.stages:
            self.assertEqual(seen(replayed(self.plan, 12, stage[2])), stage)

    def test_each_beginning(self):
        other = Board(plan(), 12)
        for length in range(len(self.board.log) + 1):
            self.assertEqual(seen(replayed(self.plan, 12, self.board.log[:length])), seen(other))
            if length < len(self.board.log):
                other.apply(self.board.log[length])

    def test_by_the_hour(self):
        for hour in range(24):
            board = Board(self.plan, hour)
            for deed in [("call", "a", "d"), ("turn",), ("turn",)]:
                do(board, deed)
            self.assertEqual(seen(replayed(self.plan, hour, board.log)), seen(board))

    def test_goes_on_like_the_first(self):
        for place, stage in enumerate(self.stages):
            board = replayed(self.plan, 12, stage[2])
            for deed in DEEDS[place:]:
                do(board, deed)
            self.assertEqual(seen(board), self.stages[-1])

    def test_a_deed_on_the_one_does_not_touch_the_other(self):
        log = self.board.log
        handed = list(log)
        again = replayed(self.plan, 12, log)
        self.assertIsNot(again.log, log)
        for deed in (("call", "a", "t"), ("turn",), ("off", 0), ("hang", "a", 7)):
            do(again, deed)
        self.assertEqual((log, seen(self.board)), (handed, self.stages[-1]))
        kept = seen(again)
        for deed in (("call", "c", "d"), ("turn",), ("on", 3)):
            do(self.board, deed)
        self.assertEqual(seen(again), kept)

    def test_a_list_that_is_changed_later(self):
        log = list(self.board.log)
        again = replayed(self.plan, 12, log)
        log.append(("turn",))
        log[0] = ("new", 0, "e")
        self.assertEqual(seen(again), self.stages[-1])

    def test_no_two_are_one(self):
        one, other = replayed(self.plan, 12, self.board.log), replayed(self.plan, 12, self.board.log)
        for name in ("log", "calls", "legs", "nexts", "on"):
            lists = [getattr(board, name) for board in (self.board, one, other)]
            self.assertEqual(len({id(kept) for kept in lists}), 3, name)
        self.assertIsNot(one.on, self.plan.on)
        for call, twin in zip(one.calls, other.calls):
            self.assertIsNot(call, twin)

    def test_the_plan_stays(self):
        replayed(self.plan, 12, self.board.log + [("off", 0)])
        self.assertEqual(self.plan.on, [True, True, True, False, True])


if __name__ == "__main__":
    unittest.main()
