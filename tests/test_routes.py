import copy
import itertools
import random
import unittest

from callboard.board import Board, picture
from callboard.plans import Plan
from callboard.routes import rings_of, route

PHONES = [("a", 2, 5), ("b", 1, 4), ("c", 1, 3), ("d", 1, 5), ("e", 1, 9), ("f", 2, 0)]
GROUPS = [("g", "all", ("c", "b", "a")), ("t", "turns", ("d", "c", "b"))]


def board_of(*wishes, hour=12, groups=GROUPS):
    """A Board of these wishes, told bare where they are on, or as a pair."""
    pairs = [wish if isinstance(wish[0], bool) else (True, wish) for wish in wishes]
    return Board(Plan(PHONES, list(groups), pairs), hour)


def begin(board, caller, target, *last):
    number = len(board.calls)
    board.apply(("new", number, caller))
    board.apply(("leg", number, caller, target, caller))
    board.apply((last[0], number) + last[1:])
    return number


def ring(board, caller, phone):
    return begin(board, caller, phone, "rings", (phone,))


def talk(board, *members):
    return begin(board, members[0], members[1], "talks", members)


class Routes(unittest.TestCase):
    def check(self, board, caller, target, end, steps, way=()):
        way = list(way)
        handed = list(way)
        before = (picture(board), list(board.legs), list(board.log), list(board.plan.on))
        told = route(board, caller, target, way)
        self.assertEqual(told, (end, steps))
        self.assertIsInstance(told, tuple)
        self.assertIsInstance(told[1], list)
        self.assertEqual(way, handed)
        self.assertEqual((picture(board), list(board.legs), list(board.log), list(board.plan.on)), before)


class WithoutWishes(Routes):
    def test_a_phone_rings(self):
        self.check(board_of(), "a", "b", ("rings", "b", ("b",)), [("b", ())])

    def test_a_group_rings(self):
        self.check(board_of(), "e", "g", ("rings", "g", ("c", "b", "a")), [("g", ())])
        self.check(board_of(), "b", "g", ("rings", "g", ("c", "a")), [("g", ())])

    def test_a_group_rings_where_it_can(self):
        board = board_of()
        ring(board, "e", "c")
        self.check(board, "f", "g", ("rings", "g", ("b", "a")), [("g", ())])

    def test_engaged(self):
        board = board_of()
        ring(board, "e", "b")
        self.check(board, "a", "b", ("engaged", "b"), [("b", ())])
        ring(board, "d", "c")
        self.check(board, "a", "g", ("engaged", "g"), [("g", ())])
        self.check(board, "a", "t", ("engaged", "t"), [("t", ())])

    def test_a_phone_that_calls_itself(self):
        self.check(board_of(), "a", "a", ("engaged", "a"), [("a", ())])

    def test_with_a_way_behind(self):
        self.check(board_of(), "a", "b", ("rings", "b", ("b",)), [("b", ())], way=["c", "g", "a"])


class InTurns(Routes):
    def test_from_its_place_on(self):
        for place, phone in enumerate(("d", "c", "b")):
            board = board_of()
            board.apply(("next", "t", place))
            self.check(board, "a", "t", ("rings", "t", (phone,)), [("t", ())])

    def test_those_that_are_not_free_are_passed_over(self):
        board = board_of()
        ring(board, "e", "d")
        self.check(board, "a", "t", ("rings", "t", ("c",)), [("t", ())])
        board.apply(("next", "t", 1))
        self.check(board, "a", "t", ("rings", "t", ("c",)), [("t", ())])

    def test_behind_the_last_the_first_again(self):
        board = board_of()
        ring(board, "e", "b")
        board.apply(("next", "t", 2))
        self.check(board, "a", "t", ("rings", "t", ("d",)), [("t", ())])
        ring(board, "f", "d")
        self.check(board, "a", "t", ("rings", "t", ("c",)), [("t", ())])

    def test_the_caller_is_passed_over(self):
        self.check(board_of(), "d", "t", ("rings", "t", ("c",)), [("t", ())])
        board = board_of()
        board.apply(("next", "t", 2))
        self.check(board, "b", "t", ("rings", "t", ("d",)), [("t", ())])

    def test_asking_leaves_the_place(self):
        board = board_of()
        for asked in range(3):
            self.check(board, "a", "t", ("rings", "t", ("d",)), [("t", ())])
        self.assertEqual(board.nexts, {"t": 0})

    def test_each_group_has_its_own_place(self):
        board = board_of(groups=[("t", "turns", ("d", "c")), ("u", "turns", ("d", "c"))])
        board.apply(("next", "u", 1))
        self.check(board, "a", "t", ("rings", "t", ("d",)), [("t", ())])
        self.check(board, "a", "u", ("rings", "u", ("c",)), [("u", ())])


class ByWishes(Routes):
    def test_barred_by_bar(self):
        board = board_of(("bar", "a", ("b", "t")))
        self.check(board, "a", "b", ("barred",), [("b", (0,))])
        self.check(board, "a", "t", ("barred",), [("t", (0,))])
        self.check(board, "a", "c", ("rings", "c", ("c",)), [("c", ())])

    def test_barred_by_shut(self):
        board = board_of(("shut", "g", ("a", "e")))
        self.check(board, "e", "g", ("barred",), [("g", (0,))])
        self.check(board, "d", "g", ("rings", "g", ("c", "b", "a")), [("g", ())])

    def test_waits(self):
        board = board_of(("wait", "b"))
        self.check(board, "a", "b", ("rings", "b", ("b",)), [("b", ())])
        talk(board, "b", "c")
        self.check(board, "a", "b", ("waits", "b"), [("b", (0,))])
        begin(board, "f", "b", "waits", "b")
        self.check(board, "a", "b", ("engaged", "b"), [("b", ())])

    def test_breaks(self):
        board = board_of(("breaks", "a"))
        self.check(board, "a", "b", ("rings", "b", ("b",)), [("b", ())])
        talk(board, "b", "c")
        self.check(board, "a", "b", ("breaks", "b"), [("b", (0,))])
        self.check(board, "a", "c", ("breaks", "c"), [("c", (0,))])
        self.check(board, "f", "c", ("engaged", "c"), [("c", ())])

    def test_always_and_on(self):
        board = board_of(("always", "b", "t"), ("always", "g", "b"))
        self.check(board, "a", "b", ("rings", "t", ("d",)), [("b", (0,)), ("t", ())])
        self.check(board, "a", "g", ("rings", "t", ("d",)), [("g", (1,)), ("b", (0,)), ("t", ())])

    def test_night(self):
        steps = [("b", (0,)), ("c", ())]
        self.check(board_of(("night", "b", "c", 22, 6), hour=23), "a", "b", ("rings", "c", ("c",)), steps)
        board = board_of(("night", "b", "c", 22, 6), hour=21)
        self.check(board, "a", "b", ("rings", "b", ("b",)), [("b", ())])
        board.apply(("turn",))
        self.check(board, "a", "b", ("rings", "c", ("c",)), steps)

    def test_busy(self):
        board = board_of(("busy", "b", "c"), ("busy", "c", "t"))
        self.check(board, "a", "b", ("rings", "b", ("b",)), [("b", ())])
        talk(board, "b", "c")
        self.check(board, "a", "b", ("rings", "t", ("d",)), [("b", (0,)), ("c", (1,)), ("t", ())])
        ring(board, "e", "d")
        self.check(board, "a", "b", ("engaged", "t"), [("b", (0,)), ("c", (1,)), ("t", ())])

    def test_silent_does_not_act(self):
        board = board_of(("silent", "b", "c", 1))
        self.check(board, "a", "b", ("rings", "b", ("b",)), [("b", ())])

    def test_each_end_behind_other_steps(self):
        talking = board_of(("always", "g", "b"), ("wait", "b"), ("breaks", "a"), ("bar", "d", ("b",)))
        talk(talking, "b", "c")
        self.check(talking, "f", "g", ("waits", "b"), [("g", (0,)), ("b", (1,))])
        self.check(talking, "a", "g", ("waits", "b"), [("g", (0,)), ("b", (1, 2))])
        self.check(talking, "d", "g", ("waits", "b"), [("g", (0,)), ("b", (1, 3))])
        talking.apply(("off", 1))
        self.check(talking, "a", "g", ("breaks", "b"), [("g", (0,)), ("b", (2,))])
        self.check(talking, "d", "g", ("barred",), [("g", (0,)), ("b", (3,))])
        self.check(talking, "f", "g", ("engaged", "b"), [("g", (0,)), ("b", ())])

    def test_the_caller_stays_the_same_all_the_way(self):
        board = board_of(("always", "b", "c"), ("bar", "a", ("c",)), ("bar", "b", ("c",)), ("shut", "c", ("b",)))
        self.check(board, "a", "b", ("barred",), [("b", (0,)), ("c", (1,))])
        self.check(board, "d", "b", ("rings", "c", ("c",)), [("b", (0,)), ("c", ())])

    def test_a_call_that_goes_on_to_its_caller(self):
        board = board_of(("always", "b", "a"))
        self.check(board, "a", "b", ("engaged", "a"), [("b", (0,)), ("a", ())])


class Several(Routes):
    def test_the_first_acts_and_all_are_told(self):
        board = board_of(("always", "b", "c"), ("bar", "a", ("b",)), ("always", "c", "d"), ("always", "b", "d"))
        self.check(board, "a", "b", ("rings", "d", ("d",)), [("b", (0, 1, 3)), ("c", (2,)), ("d", ())])
        board.apply(("off", 0))
        self.check(board, "a", "b", ("barred",), [("b", (1, 3))])
        board.apply(("off", 1))
        self.check(board, "a", "b", ("rings", "d", ("d",)), [("b", (3,)), ("d", ())])

    def test_alike(self):
        board = board_of(("bar", "a", ("b",)), ("bar", "a", ("b",)))
        self.check(board, "a", "b", ("barred",), [("b", (0, 1))])

    def test_more_than_ten(self):
        board = board_of(*[("always", "b", "c")] * 16)
        self.check(board, "a", "b", ("rings", "c", ("c",)), [("b", tuple(range(16))), ("c", ())])

    def test_off_in_the_plan(self):
        board = board_of((False, ("always", "b", "c")), ("busy", "b", "d"), (False, ("bar", "a", ("b",))))
        self.check(board, "a", "b", ("rings", "b", ("b",)), [("b", ())])
        ring(board, "e", "b")
        self.check(board, "a", "b", ("rings", "d", ("d",)), [("b", (1,)), ("d", ())])

    def test_on_and_off_on_the_board(self):
        board = board_of((False, ("always", "b", "c")), ("bar", "a", ("b",)))
        board.apply(("on", 0))
        self.check(board, "a", "b", ("rings", "c", ("c",)), [("b", (0, 1)), ("c", ())])
        board.apply(("off", 1))
        self.check(board, "a", "b", ("rings", "c", ("c",)), [("b", (0,)), ("c", ())])
        board.apply(("off", 0))
        self.check(board, "a", "b", ("rings", "b", ("b",)), [("b", ())])

    def test_a_wish_that_is_off_changes_nothing(self):
        wishes = [("always", "b", "c"), ("busy", "c", "t"), ("wait", "c"), ("bar", "a", ("b",)), ("breaks", "a")]
        for place in range(len(wishes)):
            with_it = board_of(*wishes[:place], (False, wishes[place]), *wishes[place + 1:])
            without = board_of(*wishes[:place], *wishes[place + 1:])
            for board in (with_it, without):
                talk(board, "b", "c")
            for caller, target in itertools.product(("a", "d", "f"), ("b", "c", "g", "t")):
                end, steps = route(without, caller, target, [])
                moved = [(name, tuple(i + (i >= place) for i in fits)) for name, fits in steps]
                self.check(with_it, caller, target, end, moved)


class Rings(Routes):
    def test_that_begin_here(self):
        board = board_of(("always", "b", "c"), ("always", "c", "b"))
        self.check(board, "a", "b", ("ring", ("b", "c")), [("b", (0,)), ("c", (1,))])
        self.check(board, "a", "c", ("ring", ("c", "b")), [("c", (1,)), ("b", (0,))])

    def test_that_begin_here_behind_other_steps(self):
        board = board_of(("always", "g", "t"), ("always", "t", "b"), ("always", "b", "c"), ("always", "c", "t"))
        steps = [("g", (0,)), ("t", (1,)), ("b", (2,)), ("c", (3,))]
        self.check(board, "a", "g", ("ring", ("t", "b", "c")), steps)
        self.check(board, "a", "g", ("ring", ("t", "b", "c")), steps, way=["d", "e"])

    def test_that_begin_in_the_way(self):
        board = board_of(("always", "b", "c"), ("always", "c", "d"))
        self.check(board, "a", "b", ("ring", ("d", "b", "c")), [("b", (0,)), ("c", (1,))], way=["d"])
        self.check(board, "a", "b", ("ring", ("d", "e", "b", "c")), [("b", (0,)), ("c", (1,))], way=["g", "d", "e"])

    def test_at_once(self):
        board = board_of(("always", "b", "c"))
        self.check(board, "a", "b", ("ring", ("b",)), [], way=["b"])
        self.check(board, "a", "b", ("ring", ("b", "g")), [], way=["c", "b", "g"])
        self.check(board, "a", "b", ("ring", ("b", "c", "g")), [], way=["b", "c", "g"])

    def test_a_ring_comes_ahead_of_all_wishes(self):
        board = board_of(("bar", "a", ("b",)), ("wait", "b"))
        self.check(board, "a", "b", ("ring", ("b",)), [], way=["b"])

    def test_the_caller_is_not_come_to(self):
        board = board_of(("always", "b", "a"), ("always", "a", "c"))
        self.check(board, "a", "b", ("rings", "c", ("c",)), [("b", (0,)), ("a", (1,)), ("c", ())])

    def test_a_member_is_not_its_group(self):
        board = board_of(("always", "b", "g"))
        self.check(board, "a", "b", ("rings", "g", ("c", "b")), [("b", (0,)), ("g", ())])

    def test_a_told_list_that_is_changed(self):
        board = board_of(("always", "b", "c"))
        way = ["g"]
        told = route(board, "a", "b", way)
        again = copy.deepcopy(told)
        told[1].clear()
        self.assertEqual(route(board, "a", "b", way), again)
        self.assertIsNot(route(board, "a", "b", way)[1], route(board, "a", "b", way)[1])
        self.assertEqual(way, ["g"])
        kept = route(board, "a", "b", way)
        board.apply(("off", 0))
        way.append("t")
        self.assertEqual(kept, again)


class RingsOf(unittest.TestCase):
    def check(self, expected, *wishes):
        board = board_of(*wishes)
        plan = board.plan
        self.assertEqual(rings_of(plan), expected)
        self.assertIsInstance(rings_of(plan), list)
        for told in rings_of(plan):
            self.assertIsInstance(told, list)

    def test_none(self):
        self.check([])
        self.check([], ("always", "a", "b"))
        self.check([], ("always", "a", "b"), ("always", "b", "c"), ("always", "a", "c"), ("always", "c", "d"))

    def test_of_two(self):
        self.check([["a", "b"]], ("always", "a", "b"), ("always", "b", "a"))

    def test_begins_with_the_least(self):
        self.check([["a", "c", "b"]], ("always", "c", "b"), ("always", "b", "a"), ("always", "a", "c"))
        self.check([["b", "c"]], ("always", "c", "b"), ("always", "b", "c"))

    def test_all_four_forms_lead(self):
        for wish in (("always", "a", "b"), ("night", "a", "b", 1, 2), ("busy", "a", "b"), ("silent", "a", "b", 3)):
            with self.subTest(wish=wish):
                self.check([["a", "b"]], wish, ("always", "b", "a"))
                self.check([["a", "b"]], ("busy", "b", "a"), wish)
                self.check([], (False, wish), ("always", "b", "a"))

    def test_all_four_forms_in_one(self):
        self.check([["a", "b", "c", "d"]], ("always", "a", "b"), ("night", "b", "c", 22, 6), ("busy", "c", "d"),
                   ("silent", "d", "a", 9))

    def test_other_forms_lead_nowhere(self):
        self.check([], ("always", "a", "b"), ("bar", "b", ("a",)), ("shut", "b", ("a",)), ("wait", "b"),
                   ("breaks", "b"))

    def test_off(self):
        self.check([], ("always", "a", "b"), (False, ("always", "b", "a")))
        self.check([["a", "b"]], ("always", "a", "b"), (False, ("always", "b", "a")), ("busy", "b", "a"))

    def test_as_the_plan_tells_and_not_the_board(self):
        board = board_of(("always", "a", "b"), (False, ("always", "b", "a")))
        board.apply(("on", 1))
        self.assertEqual(rings_of(board.plan), [])

    def test_two_wishes_from_one_name_to_the_same(self):
        self.check([["a", "b"]], ("always", "a", "b"), ("busy", "a", "b"), ("always", "a", "b"), ("silent", "b", "a", 1))

    def test_several_that_share_names(self):
        self.check(
            [["a", "b"], ["a", "b", "c"], ["b", "c"]],
            ("always", "b", "c"), ("busy", "c", "b"), ("always", "a", "b"), ("busy", "b", "a"), ("silent", "c", "a", 1),
        )

    def test_two_ways_round(self):
        self.check(
            [["a", "b"], ["a", "b", "c"], ["a", "c"], ["a", "c", "b"], ["b", "c"]],
            *[("busy", one, other) for one, other in itertools.permutations("cab", 2)],
        )

    def test_several_apart(self):
        self.check([["a", "d"], ["b", "c"], ["e", "f"]], ("always", "f", "e"), ("always", "e", "f"),
                   ("always", "c", "b"), ("always", "b", "c"), ("always", "a", "d"), ("always", "d", "a"))

    def test_one_that_is_come_to_from_outside(self):
        self.check([["b", "c"]], ("always", "a", "b"), ("always", "b", "c"), ("always", "c", "b"), ("busy", "c", "d"))

    def test_through_groups(self):
        self.check([["a", "g"]], ("always", "g", "a"), ("always", "a", "g"))
        self.check([["b", "t", "g"]], ("always", "g", "b"), ("busy", "b", "t"), ("silent", "t", "g", 2))

    def test_a_group_does_not_lead_to_its_members(self):
        self.check([], ("always", "a", "g"))
        self.check([], ("always", "a", "g"), ("always", "b", "a"))

    def test_longer_names(self):
        phones = [("ab", 1, 0), ("b", 1, 0), ("aa", 1, 0), ("abc", 1, 0)]
        pairs = (("b", "ab"), ("ab", "b"), ("abc", "aa"), ("aa", "abc"), ("abc", "ab"), ("ab", "abc"))
        plan = Plan(phones, [], [(True, ("always",) + pair) for pair in pairs])
        self.assertEqual(rings_of(plan), [["aa", "abc"], ["ab", "abc"], ["ab", "b"]])

    def test_a_told_list_that_is_changed(self):
        board = board_of(("always", "a", "b"), ("busy", "b", "a"), ("always", "b", "c"), ("always", "c", "a"))
        plan = board.plan
        expected = [["a", "b"], ["a", "b", "c"]]
        told = rings_of(plan)
        kept = rings_of(plan)
        for changed in told:
            changed.append("x")
        told.clear()
        self.assertEqual(kept, expected)
        self.assertEqual(rings_of(plan), expected)
        lists = [told, kept] + kept + rings_of(plan)
        self.assertEqual(len({id(one) for one in lists}), len(lists))
        self.assertEqual([wish.told()[0] for wish in plan.wishes], ["always", "busy", "always", "always"])
        self.assertEqual(plan.on, [True] * 4)


def random_wish(chance, names, phones):
    word = chance.choice(("always", "always", "night", "busy", "silent", "bar", "wait", "breaks"))
    if word in ("wait", "breaks"):
        return (word, chance.choice(phones))
    if word == "bar":
        return (word, chance.choice(phones), (chance.choice(names),))
    forward = (word,) + tuple(chance.sample(names, 2))
    if word == "night":
        return forward + tuple(chance.sample(range(24), 2))
    return forward + (2,) if word == "silent" else forward


class ByChance(unittest.TestCase):
    """Many plans of one seed, against the words of the document taken plainly."""

    PHONES = [("a", 1, 5), ("b", 1, 4), ("c", 1, 3)]
    GROUPS = [("g", "all", ("c", "b")), ("t", "turns", ("a", "c"))]
    NAMES = ["a", "b", "c", "g", "t"]

    def boards(self, seed, many):
        chance = random.Random(seed)
        for tried in range(many):
            wishes = [(chance.random() < 0.8, random_wish(chance, self.NAMES, self.NAMES[:3]))
                      for place in range(chance.randint(0, 9))]
            board = Board(Plan(self.PHONES, self.GROUPS, wishes), chance.randrange(24))
            if chance.random() < 0.6:
                talk(board, *chance.sample(self.NAMES[:3], 2))
            board.apply(("next", "t", chance.randrange(2)))
            yield board

    def all_rings(self, plan):
        leads = set()
        for on, wish in zip(plan.on, plan.wishes):
            if on and wish.told()[0] in ("always", "night", "busy", "silent"):
                leads.add(wish.told()[1:3])
        found = []
        for many in range(2, 6):
            for row in itertools.permutations(self.NAMES, many):
                if row[0] == min(row) and all(pair in leads for pair in zip(row, row[1:] + row[:1])):
                    found.append(list(row))
        return sorted(found)

    def test_rings_of(self):
        counts = set()
        for board in self.boards(14, 400):
            expected = self.all_rings(board.plan)
            counts.add(len(expected))
            self.assertEqual(rings_of(board.plan), expected)
        self.assertTrue({0, 1, 2, 3} <= counts)

    def test_rings_that_routes_come_to(self):
        ends = set()
        for board in self.boards(13, 400):
            rings = rings_of(board.plan)
            for caller, target in itertools.product(self.NAMES[:3], self.NAMES):
                end, steps = route(board, caller, target, [])
                ends.add(end[0])
                if end[0] == "ring":
                    least = end[1].index(min(end[1]))
                    self.assertIn(list(end[1][least:] + end[1][:least]), rings)
        self.assertEqual(ends, {"ring", "barred", "waits", "breaks", "engaged", "rings"})

    def test_steps(self):
        for board in self.boards(31, 200):
            for caller, target in itertools.product(self.NAMES[:3], self.NAMES):
                end, steps = route(board, caller, target, [])
                self.assertEqual(steps[0][0], target)
                self.assertEqual(len({step[0] for step in steps}), len(steps))
                for name, fits in steps:
                    every = [i for i, wish in enumerate(board.plan.wishes) if wish.fits(board, caller, name)]
                    self.assertEqual(fits, tuple(i for i in every if board.on[i]))
                for (name, fits), (following, rest) in zip(steps, steps[1:]):
                    self.assertEqual(board.plan.wishes[fits[0]].wants(), ("to", following))


if __name__ == "__main__":
    unittest.main()
