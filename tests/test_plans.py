import copy
import unittest

from callboard.errors import CallError, NoPlan
from callboard.plans import Plan
from callboard.wishes import Wish

NAMES = ["a", "b", "c", "d", "e", "f", "i", "j", "k"]
PHONES = [(name, 1, 0) for name in NAMES[:8]]
GROUPS = [("g", "all", ("a", "b")), ("h", "turns", ("c", "a", "b"))]


def plan_of(phones=None, groups=None, wishes=()):
    """A Plan of these, wishes told bare and all on; where phones or groups are not told, ordinary ones."""
    return Plan(
        list(PHONES if phones is None else phones),
        list(GROUPS if groups is None else groups),
        [(True, wish) for wish in wishes],
    )


class Checks(unittest.TestCase):
    def made(self, **parts):
        self.assertIsInstance(plan_of(**parts), Plan)

    def refused(self, **parts):
        with self.assertRaises(NoPlan):
            plan_of(**parts)


class Phones(Checks):
    def test_how_many(self):
        self.refused(phones=[], groups=[])
        self.made(phones=[("a", 1, 0)], groups=[])
        self.made(phones=[(name, 1, 0) for name in NAMES[:8]])
        self.refused(phones=[(name, 1, 0) for name in NAMES[:9]])

    def test_lines(self):
        for lines in (1, 2, 3):
            self.made(phones=[("a", lines, 0)], groups=[])
        for lines in (0, 4, -1, 10 ** 30):
            self.refused(phones=[("a", lines, 0)], groups=[])

    def test_rank(self):
        for rank in range(10):
            self.made(phones=[("a", 1, rank)], groups=[])
        for rank in (-1, 10, 10 ** 30):
            self.refused(phones=[("a", 1, rank)], groups=[])

    def test_every_phone_is_looked_at(self):
        for bad in (("", 1, 0), ("z", 0, 0), ("z", 4, 0), ("z", 1, 10)):
            self.refused(phones=[("a", 1, 0), bad], groups=[])
            self.refused(phones=[bad, ("a", 1, 0)], groups=[])

    def test_no_two_alike(self):
        self.refused(phones=[("a", 1, 0), ("b", 1, 0), ("a", 2, 1)], groups=[])
        self.refused(phones=[("a", 1, 0), ("a", 1, 0)], groups=[])


class Names(Checks):
    GOOD = ("a", "z", "abcdef", "zzzzzz", "phone", "group", "off", "bar", "all", "turns", "one")
    BAD = ("", "abcdefg", "A", "aB", "a b", " a", "a ", "a1", "1", "-", "_", "{", "`", "a\n", "\n",
           "\u00e4", "\u00df", "\u0430", "\uff41", "a\u0301", "\u0131")

    def test_of_phones(self):
        for name in self.GOOD:
            with self.subTest(name=name):
                self.made(phones=[(name, 1, 0)], groups=[])
        for name in self.BAD:
            with self.subTest(name=name):
                self.refused(phones=[(name, 1, 0)], groups=[])

    def test_of_groups(self):
        for name in self.GOOD:
            with self.subTest(name=name):
                self.made(phones=[("x", 1, 0)], groups=[(name, "all", ("x",))])
        for name in self.BAD:
            with self.subTest(name=name):
                self.refused(phones=[("x", 1, 0)], groups=[(name, "all", ("x",))])

    def test_every_letter(self):
        for sign in "abcdefghijklmnopqrstuvwxyz":
            self.made(phones=[(sign, 1, 0)], groups=[])


class Groups(Checks):
    def test_how_many(self):
        groups = [(name, "all", ("a",)) for name in ("p", "q", "r", "s")]
        for many in range(4):
            self.made(groups=groups[:many])
        self.refused(groups=groups)

    def test_manner(self):
        self.made(groups=[("g", "all", ("a",))])
        self.made(groups=[("g", "turns", ("a",))])
        for manner in ("", "one", "All", "turn", "al", "all ", "allturns", "each"):
            with self.subTest(manner=manner):
                self.refused(groups=[("g", manner, ("a",))])

    def test_how_many_members(self):
        self.refused(groups=[("g", "all", ())])
        for many in (1, 2, 3, 4):
            self.made(groups=[("g", "all", tuple(NAMES[:many]))])
        self.refused(groups=[("g", "all", tuple(NAMES[:5]))])

    def test_members_unlike(self):
        self.refused(groups=[("g", "all", ("a", "a"))])
        self.refused(groups=[("g", "all", ("a", "b", "a"))])

    def test_members_are_phones(self):
        self.refused(groups=[("g", "all", ("x",))])
        self.refused(groups=[("g", "all", ("a", "x"))])
        self.refused(groups=[("g", "all", ("g",))])
        self.refused(groups=[("g", "all", ("a",)), ("h", "all", ("g",))])
        self.refused(groups=[("h", "all", ("g",)), ("g", "all", ("a",))])

    def test_a_phone_may_be_in_two_groups(self):
        self.made(groups=[("g", "all", ("a", "b")), ("h", "turns", ("a", "b"))])

    def test_names_unlike(self):
        self.refused(groups=[("a", "all", ("a",))])
        self.refused(groups=[("a", "all", ("b",))])
        self.refused(groups=[("g", "all", ("a",)), ("g", "turns", ("b",))])

    def test_every_group_is_looked_at(self):
        for bad in (("G", "all", ("a",)), ("g", "none", ("a",)), ("g", "all", ())):
            self.refused(groups=[("h", "all", ("a",)), bad])
            self.refused(groups=[bad, ("h", "all", ("a",))])


class Wishes(Checks):
    def wish_made(self, *wish):
        with self.subTest(wish=wish):
            self.made(wishes=[wish])

    def wish_refused(self, *wish):
        with self.subTest(wish=wish):
            self.refused(wishes=[wish])

    def test_how_many(self):
        self.made(wishes=[])
        self.made(wishes=[("wait", "a")] * 16)
        self.refused(wishes=[("wait", "a")] * 17)

    def test_every_wish_is_looked_at(self):
        self.refused(wishes=[("wait", "a"), ("wait", "x")])
        self.refused(wishes=[("wait", "x"), ("wait", "a")])

    def test_a_wish_that_is_off_is_looked_at_too(self):
        with self.assertRaises(NoPlan):
            Plan(PHONES, GROUPS, [(False, ("wait", "x"))])

    def test_bar(self):
        self.wish_made("bar", "a", ("b",))
        self.wish_made("bar", "a", ("a", "g", "b", "h", "c", "d"))
        self.wish_refused("bar", "x", ("b",))
        self.wish_refused("bar", "", ("b",))
        self.wish_refused("bar", "g", ("b",))
        self.wish_refused("bar", "a", ())
        self.wish_refused("bar", "a", tuple(NAMES[:7]))
        self.wish_refused("bar", "a", ("b", "b"))
        self.wish_refused("bar", "a", ("b", "g", "b"))
        self.wish_refused("bar", "a", ("x",))
        self.wish_refused("bar", "a", ("b", "x"))

    def test_shut(self):
        self.wish_made("shut", "a", ("b",))
        self.wish_made("shut", "g", ("b",))
        self.wish_made("shut", "a", ("a", "b", "c", "d", "e", "f"))
        self.wish_refused("shut", "x", ("b",))
        self.wish_refused("shut", "a", ())
        self.wish_refused("shut", "a", tuple(NAMES[:7]))
        self.wish_refused("shut", "a", ("b", "b"))
        self.wish_refused("shut", "a", ("b", "c", "b"))
        self.wish_refused("shut", "a", ("x",))
        self.wish_refused("shut", "a", ("b", "x"))
        self.wish_refused("shut", "a", ("g",))
        self.wish_refused("shut", "a", ("b", "g"))

    def check_forward(self, word, *rest):
        self.wish_made(word, "a", "b", *rest)
        self.wish_made(word, "g", "b", *rest)
        self.wish_made(word, "a", "g", *rest)
        self.wish_made(word, "g", "h", *rest)
        self.wish_refused(word, "x", "b", *rest)
        self.wish_refused(word, "a", "x", *rest)
        self.wish_refused(word, "", "b", *rest)
        self.wish_refused(word, "a", "", *rest)
        self.wish_refused(word, "a", "a", *rest)
        self.wish_refused(word, "g", "g", *rest)

    def test_always(self):
        self.check_forward("always")

    def test_night(self):
        self.check_forward("night", 22, 6)
        self.check_forward("night", 6, 22)

    def test_hours(self):
        for first, last in ((0, 23), (23, 0), (0, 1), (12, 13), (13, 12)):
            self.wish_made("night", "a", "b", first, last)
        for first, last in ((-1, 6), (24, 6), (6, -1), (6, 24), (-1, 24), (10 ** 30, 0)):
            self.wish_refused("night", "a", "b", first, last)
        for hour in range(24):
            self.wish_refused("night", "a", "b", hour, hour)

    def test_busy(self):
        self.check_forward("busy")

    def test_silent(self):
        self.check_forward("silent", 3)

    def test_turns(self):
        for turns in range(1, 10):
            self.wish_made("silent", "a", "b", turns)
        for turns in (0, 10, -1, 10 ** 30):
            self.wish_refused("silent", "a", "b", turns)

    def test_wait_and_breaks(self):
        for word in ("wait", "breaks"):
            self.wish_made(word, "a")
            self.wish_refused(word, "x")
            self.wish_refused(word, "")
            self.wish_refused(word, "g")

    def test_no_such_form(self):
        self.wish_refused("never", "a")
        self.wish_refused("wait", "a", "b")
        self.wish_refused("always", "a")

    def test_two_wishes_may_be_alike(self):
        self.made(wishes=[("always", "a", "b"), ("always", "a", "b")])

    def test_a_refusal_is_a_call_error(self):
        with self.assertRaises(CallError):
            plan_of(wishes=[("wait", "x")])


class Told(unittest.TestCase):
    """The interface, on a plan with groups of both manners and wishes on and off."""

    PHONES = [("mia", 2, 5), ("bo", 1, 0), ("al", 3, 9)]
    GROUPS = [("desk", "turns", ("bo", "mia")), ("any", "all", ("al",))]
    WISHES = [
        (True, ("bar", "mia", ("desk", "al"))), (False, ("shut", "any", ("bo", "mia"))),
        (True, ("always", "desk", "al")), (False, ("night", "al", "any", 22, 6)),
        (False, ("busy", "bo", "mia")), (True, ("silent", "any", "bo", 9)),
        (True, ("wait", "bo")), (False, ("breaks", "al")), (False, ("wait", "bo")),
    ]

    def setUp(self):
        self.plan = Plan(self.PHONES, self.GROUPS, self.WISHES)

    def test_values(self):
        self.assertEqual(self.plan.phones, self.PHONES)
        self.assertEqual(self.plan.groups, self.GROUPS)
        self.assertEqual([wish.told() for wish in self.plan.wishes], [wish for on, wish in self.WISHES])
        self.assertTrue(all(isinstance(wish, Wish) for wish in self.plan.wishes))
        self.assertEqual(self.plan.on, [True, False, True, False, False, True, True, False, False])
        for value in (self.plan.phones, self.plan.groups, self.plan.wishes, self.plan.on):
            self.assertIsInstance(value, list)

    def test_values_without_groups_and_wishes(self):
        plan = Plan([("a", 1, 0)], [], [])
        self.assertEqual((plan.phones, plan.groups, plan.wishes, plan.on), ([("a", 1, 0)], [], [], []))
        self.assertEqual((plan.names(), plan.phone_names()), (["a"], ["a"]))

    def test_names(self):
        self.assertEqual(self.plan.names(), ["mia", "bo", "al", "desk", "any"])
        self.assertEqual(self.plan.phone_names(), ["mia", "bo", "al"])

    def test_lines_and_rank(self):
        self.assertEqual([self.plan.lines(name) for name in ("mia", "bo", "al")], [2, 1, 3])
        self.assertEqual([self.plan.rank(name) for name in ("mia", "bo", "al")], [5, 0, 9])

    def test_phones_of(self):
        self.assertEqual(self.plan.phones_of("desk"), ["bo", "mia"])
        self.assertEqual(self.plan.phones_of("any"), ["al"])
        self.assertEqual(self.plan.phones_of("mia"), ["mia"])

    def test_manner(self):
        told = [self.plan.manner(name) for name in self.plan.names()]
        self.assertEqual(told, ["one", "one", "one", "turns", "all"])

    def test_what_was_told_may_be_handed_in_again(self):
        wishes = [(on, wish.told()) for on, wish in zip(self.plan.on, self.plan.wishes)]
        again = Plan(self.plan.phones, self.plan.groups, wishes)
        self.assertEqual((again.phones, again.groups, again.on), (self.PHONES, self.GROUPS, self.plan.on))
        self.assertIsNot(again.phones, self.plan.phones)
        self.assertIsNot(again.groups, self.plan.groups)
        self.assertIsNot(again.on, self.plan.on)


class Own(unittest.TestCase):
    """Nothing handed in is changed, and what is handed in or told may be changed without harm."""

    def setUp(self):
        self.handed = (list(Told.PHONES), list(Told.GROUPS), list(Told.WISHES))
        self.before = copy.deepcopy(self.handed)
        self.plan = Plan(*self.handed)

    def all_told(self):
        plan = self.plan
        names = plan.names()
        return copy.deepcopy((
            plan.phones, plan.groups, [wish.told() for wish in plan.wishes], plan.on, names, plan.phone_names(),
            [plan.phones_of(name) for name in names], [plan.manner(name) for name in names],
            [(plan.lines(name), plan.rank(name)) for name in plan.phone_names()],
        ))

    def test_nothing_handed_in_is_changed(self):
        self.all_told()
        self.assertEqual(self.handed, self.before)

    def test_nothing_handed_in_is_changed_by_a_refusal(self):
        handed = ([("a", 1, 0), ("b", 1, 0)], [("g", "all", ("b", "a"))], [(True, ("wait", "b")), (True, ("wait", "g"))])
        before = copy.deepcopy(handed)
        with self.assertRaises(NoPlan):
            Plan(*handed)
        self.assertEqual(handed, before)

    def test_lists_changed_behind_the_making(self):
        told = self.all_told()
        for changed in self.handed:
            changed.reverse()
            changed.pop()
        self.assertEqual(self.all_told(), told)
        for changed in self.handed:
            changed.clear()
        self.assertEqual(self.all_told(), told)

    def test_told_lists_that_are_changed(self):
        told = self.all_told()
        for ask in (self.plan.names, self.plan.phone_names):
            ask().append("x")
            ask().reverse()
            ask().clear()
        for name in self.plan.names():
            self.plan.phones_of(name).append("x")
            self.plan.phones_of(name).clear()
        self.assertEqual(self.all_told(), told)

    def test_no_two_told_lists_are_one(self):
        plan = self.plan
        lists = [plan.phones, plan.groups, plan.wishes, plan.on]
        for asked in range(2):
            lists += [plan.names(), plan.phone_names()]
            lists += [plan.phones_of(name) for name in plan.names()]
        lists += self.handed
        self.assertEqual(len({id(told) for told in lists}), len(lists))

    def test_names_without_groups_are_two_lists(self):
        plan = Plan([("a", 1, 0)], [], [])
        self.assertIsNot(plan.names(), plan.phone_names())
        self.assertIsNot(plan.names(), plan.names())

    def test_two_plans_of_the_same_lists(self):
        other = Plan(*self.handed)
        for mine, others in ((self.plan.phones, other.phones), (self.plan.groups, other.groups),
                             (self.plan.wishes, other.wishes), (self.plan.on, other.on)):
            self.assertIsNot(mine, others)


if __name__ == "__main__":
    unittest.main()
