import unittest

from callboard.plans import Plan
from callboard.wishes import Always, Bar, Breaks, Busy, Night, Shut, Silent, Wait, Wish, wish_of

CLASSES = {
    "bar": Bar, "shut": Shut, "always": Always, "night": Night,
    "busy": Busy, "silent": Silent, "wait": Wait, "breaks": Breaks,
}

FORMS = [
    (("bar", "a", ("b", "g")), ("end",)),
    (("shut", "g", ("a", "b")), ("end",)),
    (("always", "b", "c"), ("to", "c")),
    (("night", "b", "g", 22, 6), ("to", "g")),
    (("busy", "g", "d"), ("to", "d")),
    (("silent", "b", "a", 3), ("to", "a")),
    (("wait", "b"), ("wait", "b")),
    (("breaks", "a"), ("break",)),
]

PHONES = [("a", 2, 5), ("b", 1, 4), ("c", 1, 0), ("d", 1, 5), ("e", 1, 9)]
GROUPS = [("g", "all", ("b", "c")), ("h", "turns", ("c",))]


class Talk:
    def __init__(self, members):
        self.members = list(members)


class StandIn:
    """What a wish asks of a Board, told by hand: names in busy ring nowhere, calls are talks."""

    def __init__(self, hour=12, busy=(), waiting=(), talks=()):
        self.plan = Plan(PHONES, GROUPS, [])
        self.calls = [Talk(members) for members in talks]
        self.hour = hour
        self.busy = busy
        self.waiting = waiting

    def hour_now(self):
        return self.hour

    def ringable(self, caller, target):
        if target in self.busy or (caller, target) in self.busy:
            return []
        return [phone for phone in self.plan.phones_of(target) if phone != caller]

    def is_free(self, phone):
        return phone not in self.busy

    def used(self, phone):
        return 0 if self.is_free(phone) else self.plan.lines(phone)

    def waits_at(self, phone):
        return phone in self.waiting

    def talk_of(self, phone):
        for number, call in enumerate(self.calls):
            if phone in call.members:
                return number
        return None


class Forms(unittest.TestCase):
    def test_class(self):
        for told, wanted in FORMS:
            with self.subTest(told=told):
                wish = wish_of(told)
                self.assertIsInstance(wish, Wish)
                for word, kind in CLASSES.items():
                    self.assertEqual(isinstance(wish, kind), word == told[0])

    def test_told_is_the_very_tuple(self):
        for told, wanted in FORMS:
            with self.subTest(told=told):
                self.assertEqual(wish_of(told).told(), told)
                self.assertIsInstance(wish_of(told).told(), tuple)

    def test_wants(self):
        for told, wanted in FORMS:
            with self.subTest(told=told):
                self.assertEqual(wish_of(told).wants(), wanted)
                self.assertIsInstance(wish_of(told).wants(), tuple)

    def test_unlike_wants_of_one_form(self):
        self.assertNotEqual(wish_of(("always", "b", "c")).wants(), wish_of(("always", "b", "d")).wants())
        self.assertEqual(wish_of(("always", "b", "c")).wants(), wish_of(("busy", "a", "c")).wants())
        self.assertNotEqual(wish_of(("wait", "b")).wants(), wish_of(("wait", "c")).wants())

    def test_what_was_told_may_be_handed_in_again(self):
        for told, wanted in FORMS:
            with self.subTest(told=told):
                again = wish_of(wish_of(told).told())
                self.assertEqual((again.told(), again.wants()), (told, wanted))


class Fits(unittest.TestCase):
    def check(self, expected, told, caller, target, **board):
        # `is`, since a fit is True or False and not merely true or false.
        self.assertIs(wish_of(told).fits(StandIn(**board), caller, target), expected)


class BarAndShut(Fits):
    def test_bar_fits_its_phone_to_each_of_the_names(self):
        told = ("bar", "a", ("b", "g"))
        self.check(True, told, "a", "b")
        self.check(True, told, "a", "g")

    def test_bar_not_for_another_caller(self):
        self.check(False, ("bar", "a", ("b", "g")), "d", "b")
        self.check(False, ("bar", "a", ("b", "g")), "b", "a")

    def test_bar_not_for_another_target(self):
        self.check(False, ("bar", "a", ("b", "g")), "a", "d")

    def test_bar_of_a_group_is_not_one_of_its_members(self):
        self.check(False, ("bar", "a", ("g",)), "a", "b")
        self.check(False, ("bar", "a", ("b", "c")), "a", "g")

    def test_bar_to_itself(self):
        self.check(True, ("bar", "a", ("a",)), "a", "a")

    def test_shut_fits_its_name_from_each_of_the_phones(self):
        told = ("shut", "g", ("a", "d"))
        self.check(True, told, "a", "g")
        self.check(True, told, "d", "g")

    def test_shut_not_for_another_caller(self):
        self.check(False, ("shut", "g", ("a", "d")), "e", "g")

    def test_shut_not_for_another_target(self):
        self.check(False, ("shut", "g", ("a", "d")), "a", "h")
        self.check(False, ("shut", "g", ("a", "d")), "a", "b")
        self.check(False, ("shut", "a", ("d",)), "a", "d")

    def test_names_are_not_found_within_longer_ones(self):
        self.check(False, ("bar", "a", ("bb",)), "a", "b")
        self.check(False, ("shut", "b", ("aa",)), "a", "b")


class Forwards(Fits):
    def test_always(self):
        told = ("always", "g", "d")
        self.check(True, told, "a", "g")
        self.check(True, told, "a", "g", busy=("g",))
        self.check(True, told, "d", "g")
        self.check(False, told, "a", "d")
        self.check(False, told, "a", "b")

    def test_night_within_a_day(self):
        told = ("night", "b", "c", 6, 22)
        for hour in range(24):
            with self.subTest(hour=hour):
                self.check(6 <= hour <= 21, told, "a", "b", hour=hour)
                self.check(False, told, "a", "c", hour=hour)

    def test_night_round_midnight(self):
        told = ("night", "b", "c", 22, 6)
        for hour in range(24):
            with self.subTest(hour=hour):
                self.check(hour in (22, 23, 0, 1, 2, 3, 4, 5), told, "a", "b", hour=hour)
                self.check(False, told, "a", "c", hour=hour)

    def test_night_edges_of_the_day(self):
        for hour in range(24):
            with self.subTest(hour=hour):
                self.check(hour == 23, ("night", "b", "c", 23, 0), "a", "b", hour=hour)
                self.check(hour < 23, ("night", "b", "c", 0, 23), "a", "b", hour=hour)
                self.check(hour == 0, ("night", "b", "c", 0, 1), "a", "b", hour=hour)
                self.check(hour != 3, ("night", "b", "c", 4, 3), "a", "b", hour=hour)

    def test_busy(self):
        for name in ("b", "g"):
            told = ("busy", name, "d")
            with self.subTest(name=name):
                self.check(True, told, "a", name, busy=(name,))
                self.check(False, told, "a", name)
                self.check(False, told, "a", "e", busy=("e", name))
                self.check(False, told, "a", "d", busy=("d",))

    def test_busy_is_asked_for_this_caller(self):
        told = ("busy", "b", "d")
        self.check(True, told, "a", "b", busy=(("a", "b"),))
        self.check(False, told, "e", "b", busy=(("a", "b"),))
        self.check(True, told, "b", "b")

    def test_silent_never(self):
        told = ("silent", "b", "c", 1)
        for caller in ("a", "b", "c"):
            for target in ("b", "c", "g"):
                self.check(False, told, caller, target)
                self.check(False, told, caller, target, busy=(target,))


class Waits(Fits):
    def test_at_a_busy_phone(self):
        self.check(True, ("wait", "b"), "a", "b", busy=("b",))
        self.check(True, ("wait", "b"), "a", "b", busy=(("a", "b"),), waiting=("c",))

    def test_not_at_another_target(self):
        self.check(False, ("wait", "b"), "a", "c", busy=("b", "c"))
        self.check(False, ("wait", "b"), "a", "g", busy=("b", "g"))

    def test_not_for_the_phone_itself(self):
        self.check(False, ("wait", "b"), "b", "b", busy=("b",))

    def test_not_where_it_is_not_busy(self):
        self.check(False, ("wait", "b"), "a", "b")
        self.check(False, ("wait", "b"), "a", "b", busy=(("d", "b"),))

    def test_not_where_a_call_waits(self):
        self.check(False, ("wait", "b"), "a", "b", busy=("b",), waiting=("b",))


class BreaksIn(Fits):
    def test_into_a_talk_of_two_of_less_rank(self):
        self.check(True, ("breaks", "a"), "a", "b", busy=("b",), talks=(("b", "c"),))
        self.check(True, ("breaks", "a"), "a", "c", busy=("c",), talks=(("b", "c"),))
        self.check(True, ("breaks", "a"), "a", "c", busy=("c",), talks=(("d", "e"), ("b", "c")))

    def test_not_for_another_caller(self):
        self.check(False, ("breaks", "a"), "e", "b", busy=("b",), talks=(("b", "c"),))

    def test_not_into_its_own(self):
        self.check(False, ("breaks", "a"), "a", "a", busy=("a",), talks=(("a", "b"),))
        self.check(False, ("breaks", "a"), "a", "b", busy=("b",), talks=(("a", "b"),))

    def test_itself_is_no_target_whatever_the_talk(self):
        class Odd(StandIn):
            def talk_of(self, phone):
                return 0

        board = Odd(busy=("a",), talks=(("b", "c"),))
        self.assertIs(wish_of(("breaks", "a")).fits(board, "a", "a"), False)

    def test_not_by_a_group(self):
        class Odd(StandIn):
            def talk_of(self, phone):
                return 0

        board = Odd(busy=("g", "b", "c"), talks=(("b", "c"),))
        self.assertIs(wish_of(("breaks", "a")).fits(board, "a", "g"), False)

    def test_not_where_the_target_is_not_busy(self):
        self.check(False, ("breaks", "a"), "a", "b", talks=(("b", "c"),))
        self.check(False, ("breaks", "a"), "a", "b", busy=(("d", "b"),), talks=(("b", "c"),))

    def test_not_where_the_target_does_not_talk(self):
        self.check(False, ("breaks", "a"), "a", "b", busy=("b",))
        self.check(False, ("breaks", "a"), "a", "b", busy=("b",), talks=(("c", "d"),))

    def test_not_into_a_talk_of_three(self):
        self.check(False, ("breaks", "e"), "e", "b", busy=("b",), talks=(("a", "b", "c"),))

    def test_not_where_one_is_of_like_or_more_rank(self):
        for other in ("d", "e"):
            for target in ("b", other):
                for members in (("b", other), (other, "b")):
                    with self.subTest(target=target, members=members):
                        self.check(False, ("breaks", "a"), "a", target, busy=(target,), talks=(members,))


if __name__ == "__main__":
    unittest.main()
