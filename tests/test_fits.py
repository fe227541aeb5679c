"""Whether wishes fit, asked with real Boards."""

import unittest

from callboard.board import Board
from callboard.plans import Plan
from callboard.wishes import wish_of

PHONES = [("a", 2, 5), ("b", 1, 4), ("c", 1, 3), ("d", 1, 5), ("e", 1, 9), ("f", 2, 0)]
GROUPS = [("g", "all", ("b", "c")), ("t", "turns", ("c", "a"))]


class Checks(unittest.TestCase):
    def setUp(self):
        self.start()

    def start(self, hour=12):
        self.board = Board(Plan(PHONES, GROUPS, []), hour)

    def begin(self, caller, target, *last):
        """A call of the caller to the target, with one more event of these words and things behind its number."""
        number = len(self.board.calls)
        self.board.apply(("new", number, caller))
        self.board.apply(("leg", number, caller, target, caller))
        self.board.apply((last[0], number) + last[1:])
        return number

    def ring(self, caller, phone):
        return self.begin(caller, phone, "rings", (phone,))

    def wait(self, caller, phone):
        return self.begin(caller, phone, "waits", phone)

    def talk(self, *members):
        return self.begin(members[0], members[1], "talks", members)

    def check(self, expected, told, caller, target):
        before = list(self.board.log)
        self.assertIs(wish_of(told).fits(self.board, caller, target), expected, (told, caller, target))
        self.assertEqual(self.board.log, before)


class BarAndShut(Checks):
    def test_bar(self):
        told = ("bar", "a", ("b", "g"))
        for busy in (False, True):
            if busy:
                self.talk("b", "c")
            for caller in ("a", "b", "d"):
                for target in ("a", "b", "c", "g", "t"):
                    self.check(caller == "a" and target in ("b", "g"), told, caller, target)

    def test_shut(self):
        told = ("shut", "g", ("a", "d"))
        for busy in (False, True):
            if busy:
                self.talk("b", "c")
            for caller in ("a", "b", "d", "e"):
                for target in ("a", "b", "g", "t"):
                    self.check(caller in ("a", "d") and target == "g", told, caller, target)


class Forwards(Checks):
    def test_always(self):
        for busy in (False, True):
            if busy:
                self.talk("b", "c")
            for target in ("a", "b", "g", "t"):
                self.check(target == "g", ("always", "g", "b"), "d", target)
                self.check(target == "b", ("always", "b", "g"), "b", target)

    def test_night(self):
        for hour in range(24):
            self.start(hour)
            self.check(hour >= 22 or hour < 6, ("night", "b", "c", 22, 6), "a", "b")
            self.check(6 <= hour < 22, ("night", "b", "c", 6, 22), "a", "b")
            self.check(False, ("night", "b", "c", 22, 6), "a", "c")

    def test_night_as_turns_pass(self):
        self.start(20)
        for turn in range(50):
            hour = (20 + turn) % 24
            self.check(hour >= 22 or hour < 6, ("night", "g", "c", 22, 6), "a", "g")
            self.check(hour == 23, ("night", "g", "c", 23, 0), "a", "g")
            self.board.apply(("turn",))

    def test_busy_phone(self):
        told = ("busy", "b", "c")
        self.check(False, told, "a", "b")
        number = self.ring("d", "b")
        self.check(True, told, "a", "b")
        self.check(False, told, "a", "c")
        self.board.apply(("over", number, "left"))
        self.check(False, told, "a", "b")
        self.check(True, told, "b", "b")

    def test_busy_phone_of_two_lines(self):
        self.ring("d", "f")
        self.check(False, ("busy", "f", "c"), "a", "f")
        self.ring("e", "f")
        self.check(True, ("busy", "f", "c"), "a", "f")

    def test_busy_group(self):
        for name, caller in (("g", "d"), ("t", "d")):
            self.start()
            told = ("busy", name, "e")
            self.check(False, told, caller, name)
            self.ring("f", "c")
            self.check(False, told, caller, name)
            self.ring("e", "b")
            self.ring("d", "a")
            self.ring("f", "a")
            self.check(True, told, caller, name)

    def test_busy_group_whose_last_free_one_is_the_caller(self):
        self.ring("d", "c")
        self.check(True, ("busy", "g", "e"), "b", "g")
        self.check(True, ("busy", "t", "e"), "a", "t")
        self.check(False, ("busy", "g", "e"), "a", "g")
        self.check(False, ("busy", "t", "e"), "b", "t")

    def test_silent(self):
        number = self.ring("d", "b")
        self.board.apply(("turn",))
        for caller in ("a", "d"):
            for target in ("b", "c", "g"):
                self.check(False, ("silent", "b", "c", 1), caller, target)
        self.assertEqual(self.board.calls[number].since, 1)


class Waits(Checks):
    TOLD = ("wait", "b")

    def test_where_it_is_free(self):
        self.check(False, self.TOLD, "a", "b")

    def test_where_it_is_busy(self):
        self.talk("b", "c")
        self.check(True, self.TOLD, "a", "b")
        self.check(False, self.TOLD, "a", "c")
        self.check(False, self.TOLD, "a", "g")

    def test_not_for_itself(self):
        self.check(False, self.TOLD, "b", "b")
        self.talk("b", "c")
        self.check(False, self.TOLD, "b", "b")

    def test_whatever_makes_it_busy(self):
        for begun in (self.ring, self.talk):
            self.start()
            begun("d", "b")
            self.check(True, self.TOLD, "a", "b")
        self.start()
        self.wait("b", "e")
        self.check(True, self.TOLD, "a", "b")

    def test_one_call_alone(self):
        self.talk("b", "c")
        number = self.wait("f", "b")
        self.check(False, self.TOLD, "a", "b")
        self.board.apply(("over", number, "left"))
        self.check(True, self.TOLD, "a", "b")

    def test_a_call_that_waits_elsewhere(self):
        self.talk("b", "c")
        self.wait("f", "c")
        self.check(True, self.TOLD, "a", "b")


class BreaksIn(Checks):
    TOLD = ("breaks", "a")

    def test_into_a_talk_of_two(self):
        self.talk("b", "c")
        for target in ("b", "c"):
            self.check(True, self.TOLD, "a", target)

    def test_not_for_another_caller(self):
        self.talk("b", "c")
        self.check(False, self.TOLD, "e", "b")
        self.check(False, self.TOLD, "d", "b")

    def test_not_at_itself(self):
        self.talk("a", "b")
        self.ring("c", "a")
        self.check(False, self.TOLD, "a", "a")
        self.check(False, self.TOLD, "a", "b")

    def test_not_at_a_group(self):
        self.talk("b", "c")
        self.check(False, self.TOLD, "a", "g")
        self.check(False, self.TOLD, "a", "t")

    def test_not_where_it_is_not_busy(self):
        self.talk("b", "f")
        self.check(True, self.TOLD, "a", "b")
        self.check(False, self.TOLD, "a", "f")
        self.ring("d", "f")
        self.check(True, self.TOLD, "a", "f")

    def test_not_where_it_does_not_talk(self):
        self.check(False, self.TOLD, "a", "b")
        self.ring("c", "b")
        self.check(False, self.TOLD, "a", "b")
        self.check(False, self.TOLD, "a", "c")

    def test_not_into_what_is_held(self):
        number = self.talk("b", "c")
        for holder in ("b", "c"):
            self.board.apply(("held", number, holder))
            self.check(False, self.TOLD, "a", "b")
            self.check(False, self.TOLD, "a", "c")
        self.board.apply(("talks", number, ("b", "c")))
        self.check(True, self.TOLD, "a", "b")

    def test_not_into_a_talk_of_three(self):
        number = self.talk("b", "c", "f")
        self.check(False, self.TOLD, "a", "b")
        self.check(False, ("breaks", "e"), "e", "b")
        self.board.apply(("leaves", number, "f"))
        self.check(True, self.TOLD, "a", "b")

    def test_rank_of_both(self):
        for other, less in (("c", True), ("f", True), ("d", False), ("e", False)):
            self.start()
            self.talk("b", other)
            self.check(less, self.TOLD, "a", "b")
            self.start()
            self.talk(other, "b")
            self.check(less, self.TOLD, "a", "b")

    def test_rank_of_the_target(self):
        self.talk("d", "c")
        self.check(False, self.TOLD, "a", "d")
        self.check(True, ("breaks", "e"), "e", "d")


if __name__ == "__main__":
    unittest.main()
