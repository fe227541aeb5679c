import copy
import unittest

from callboard.board import Board, Call, picture
from callboard.plans import Plan

PHONES = [("a", 3, 5), ("b", 2, 4), ("c", 1, 3), ("d", 1, 2), ("e", 1, 9), ("f", 2, 0)]
GROUPS = [("t", "turns", ("d", "c", "b")), ("g", "all", ("b", "a", "c")), ("s", "turns", ("e",))]
WISHES = [(True, ("always", "a", "b")), (False, ("wait", "b")), (True, ("silent", "g", "b", 2))]


def new_board(hour=12, wishes=WISHES):
    return Board(Plan(PHONES, GROUPS, wishes), hour)


def make(board, *events):
    for event in events:
        board.apply(event)


def tried(board, caller, target):
    """A call of the caller to the target that rings nowhere yet; told is its number."""
    number = len(board.calls)
    make(board, ("new", number, caller), ("leg", number, caller, target, caller), ("asks", number, target, ()))
    return number


def ringing(board, caller, target, *phones):
    number = tried(board, caller, target)
    board.apply(("rings", number, phones or (target,)))
    return number


def waiting(board, caller, target):
    number = tried(board, caller, target)
    board.apply(("waits", number, target))
    return number


def talking(board, caller, phone):
    number = ringing(board, caller, phone)
    board.apply(("talks", number, (caller, phone)))
    return number


def held(board, caller, phone, holder):
    number = talking(board, caller, phone)
    board.apply(("held", number, holder))
    return number


def over(board, caller, phone):
    number = talking(board, caller, phone)
    board.apply(("over", number, "done"))
    return number


def values(call):
    return (call.state, call.caller, call.way, call.at, call.members, call.holder, call.since, call.word)


def whole(board):
    """All that a Board has, taken as it is now."""
    calls = [values(call) for call in board.calls]
    return copy.deepcopy((board.turn, calls, board.legs, board.nexts, board.on, board.log))


class New(unittest.TestCase):
    def test_values(self):
        plan = Plan(PHONES, GROUPS, WISHES)
        board = Board(plan, 7)
        self.assertIs(board.plan, plan)
        self.assertEqual((board.turn, board.calls, board.legs, board.log), (0, [], [], []))
        self.assertEqual(board.nexts, {"t": 0, "s": 0})
        self.assertEqual(board.on, [True, False, True])
        self.assertIsInstance(board.on, list)
        self.assertIsInstance(board.nexts, dict)

    def test_without_groups_and_wishes(self):
        board = Board(Plan([("a", 1, 0)], [], []), 0)
        self.assertEqual((board.nexts, board.on), ({}, []))

    def test_groups_of_the_manner_all_have_no_place(self):
        board = Board(Plan(PHONES, [("g", "all", ("a",))], []), 0)
        self.assertEqual(board.nexts, {})

    def test_no_phone_is_in_a_call(self):
        board = new_board()
        for phone, lines, rank in PHONES:
            self.assertEqual(board.used(phone), 0)
            self.assertIs(board.is_free(phone), True)
            self.assertIs(board.waits_at(phone), False)
            self.assertEqual((board.talk_of(phone), board.bound(phone), board.calling(phone)), (None, None, None))

    def test_call(self):
        self.assertEqual(values(Call("a")), ("rings", "a", [], [], [], None, 0, None))

    def test_lists_of_two_calls_are_not_one(self):
        one, other = Call("a"), Call("a")
        lists = [one.way, one.at, one.members, other.way, other.at, other.members]
        self.assertEqual(len({id(told) for told in lists}), 6)


class Hours(unittest.TestCase):
    def test_at_first(self):
        for hour in range(24):
            self.assertEqual(new_board(hour).hour_now(), hour)

    def test_when_turns_pass(self):
        for hour in (0, 12, 22, 23):
            board = new_board(hour)
            for turn in range(60):
                self.assertEqual((board.turn, board.hour_now()), (turn, (hour + turn) % 24))
                board.apply(("turn",))

    def test_round_midnight(self):
        board = new_board(23)
        self.assertEqual(board.hour_now(), 23)
        board.apply(("turn",))
        self.assertEqual(board.hour_now(), 0)
        board.apply(("turn",))
        self.assertEqual(board.hour_now(), 1)

    def test_other_events_pass_no_time(self):
        board = new_board(22)
        make(board, ("turn",), ("off", 0), ("next", "t", 1))
        talking(board, "a", "b")
        self.assertEqual((board.turn, board.hour_now()), (1, 23))


class TwoBoards(unittest.TestCase):
    def test_do_not_touch_one_another_nor_the_plan(self):
        plan = Plan(PHONES, GROUPS, WISHES)
        one, other = Board(plan, 5), Board(plan, 5)
        untouched = whole(other)
        make(one, ("turn",), ("off", 0), ("on", 1), ("next", "t", 2))
        talking(one, "a", "b")
        waiting(one, "f", "c")
        self.assertEqual(whole(other), untouched)
        self.assertEqual(other.hour_now(), 5)
        self.assertEqual((plan.on, plan.phones, plan.groups), ([True, False, True], PHONES, GROUPS))
        self.assertEqual([wish.told() for wish in plan.wishes], [wish for on, wish in WISHES])
        self.assertEqual(other.ringable("d", "b"), ["b"])
        for mine, others in ((one.calls, other.calls), (one.legs, other.legs), (one.nexts, other.nexts),
                             (one.on, other.on), (one.log, other.log), (one.on, plan.on)):
            self.assertIsNot(mine, others)

    def test_the_same_events_on_both(self):
        plan = Plan(PHONES, GROUPS, WISHES)
        one, other = Board(plan, 5), Board(plan, 5)
        talking(one, "a", "b")
        make(other, *one.log)
        self.assertEqual(whole(one), whole(other))
        one.apply(("held", 0, "b"))
        self.assertEqual(other.calls[0].state, "talks")
        other.calls[0].members.clear()
        other.calls[0].way.clear()
        self.assertEqual((one.calls[0].members, one.calls[0].way), (["a", "b"], ["b"]))


class Asked(unittest.TestCase):
    def setUp(self):
        self.board = new_board()

    def check(self, phone, used=0, talk_of=None, bound=None, calling=None, waits_at=False):
        board = self.board
        with self.subTest(phone=phone):
            self.assertEqual(board.used(phone), used)
            self.assertIs(board.is_free(phone), used < dict((row[0], row[1]) for row in PHONES)[phone])
            self.assertEqual(board.talk_of(phone), talk_of)
            self.assertEqual(board.bound(phone), bound)
            self.assertEqual(board.calling(phone), calling)
            self.assertIs(board.waits_at(phone), waits_at)

    def check_unused(self, *phones):
        for phone in phones:
            self.check(phone)


class States(Asked):
    def test_rings(self):
        ringing(self.board, "a", "g", "b", "c")
        self.check("a", used=1, calling=0)
        self.check("b", used=1)
        self.check("c", used=1)
        self.check_unused("d", "e", "f")

    def test_rings_nowhere(self):
        tried(self.board, "a", "b")
        self.check("a", used=1, calling=0)
        self.check_unused("b", "c", "d", "e", "f")

    def test_quiet(self):
        ringing(self.board, "a", "b")
        self.board.apply(("quiet", 0))
        self.check("a", used=1, calling=0)
        self.check_unused("b")

    def test_waits(self):
        waiting(self.board, "a", "c")
        self.check("a", used=1, calling=0)
        self.check("c", waits_at=True)
        self.check_unused("b", "d", "e", "f")

    def test_talks(self):
        talking(self.board, "a", "b")
        self.check("a", used=1, talk_of=0, bound=0)
        self.check("b", used=1, talk_of=0, bound=0)
        self.check_unused("c", "d", "e", "f")

    def test_talks_of_three(self):
        talking(self.board, "a", "b")
        self.board.apply(("talks", 0, ("c", "b", "d")))
        self.check_unused("a", "e", "f")
        for phone in ("c", "b", "d"):
            self.check(phone, used=1, talk_of=0, bound=0)

    def test_held_by_the_caller(self):
        held(self.board, "a", "b", "a")
        self.check("a", used=1)
        self.check("b", used=1, bound=0)
        self.check_unused("c", "d", "e", "f")

    def test_held_by_the_other(self):
        held(self.board, "a", "b", "b")
        self.check("a", used=1, bound=0)
        self.check("b", used=1)

    def test_over(self):
        over(self.board, "a", "b")
        self.check_unused("a", "b", "c", "d", "e", "f")

    def test_over_from_each_state(self):
        for begun in (tried, ringing, waiting, talking):
            number = begun(self.board, "a", "b")
            self.board.apply(("over", number, "left"))
            self.check_unused("a", "b")

    def test_the_members_count_and_not_the_caller(self):
        talking(self.board, "a", "b")
        self.board.apply(("talks", 0, ("c", "d")))
        self.check_unused("a", "b")
        self.check("c", used=1, talk_of=0, bound=0)
        self.board.apply(("held", 0, "c"))
        self.check_unused("a", "b")
        self.check("c", used=1)
        self.check("d", used=1, bound=0)

    def test_several(self):
        """Calls of all five states at once; numbers are those of the calls, whatever stands ahead."""
        over(self.board, "a", "b")
        held(self.board, "a", "b", "a")
        held(self.board, "a", "f", "a")
        talking(self.board, "c", "d")
        ringing(self.board, "e", "g", "a")
        waiting(self.board, "f", "c")
        self.check("a", used=3)
        self.check("b", used=1, bound=1)
        self.check("c", used=1, talk_of=3, bound=3, waits_at=True)
        self.check("d", used=1, talk_of=3, bound=3)
        self.check("e", used=1, calling=4)
        self.check("f", used=2, bound=2, calling=5)

    def test_one_that_holds_and_talks(self):
        held(self.board, "a", "b", "a")
        talking(self.board, "a", "c")
        self.check("a", used=2, talk_of=1, bound=1)
        self.check("b", used=1, bound=0)

    def test_one_that_holds_and_calls(self):
        held(self.board, "a", "b", "a")
        ringing(self.board, "a", "c")
        self.check("a", used=2, calling=1)

    def test_one_at_which_two_calls_ring(self):
        ringing(self.board, "c", "b")
        ringing(self.board, "d", "b")
        self.check("b", used=2)
        self.check("c", used=1, calling=0)
        self.check("d", used=1, calling=1)

    def test_free_by_lines(self):
        for phone, lines, rank in PHONES:
            board = new_board()
            for line in range(lines):
                self.assertIs(board.is_free(phone), True)
                ringing(board, "a" if phone != "a" else "b", phone)
                self.assertEqual(board.used(phone), line + 1)
            self.assertIs(board.is_free(phone), False)

    def test_waiting_takes_no_line_where_it_waits(self):
        talking(self.board, "c", "d")
        waiting(self.board, "a", "c")
        waiting(self.board, "b", "d")
        self.check("c", used=1, talk_of=0, bound=0, waits_at=True)
        self.check("d", used=1, talk_of=0, bound=0, waits_at=True)
        self.board.apply(("talks", 1, ("a", "c")))
        self.assertIs(self.board.waits_at("c"), False)
        self.assertIs(self.board.waits_at("d"), True)

    def test_no_call_waits_where_one_rings(self):
        ringing(self.board, "a", "b")
        self.assertIs(self.board.waits_at("b"), False)
        self.assertIs(self.board.waits_at("a"), False)


class Ringable(unittest.TestCase):
    def setUp(self):
        self.board = new_board()

    def test_a_phone(self):
        self.assertEqual(self.board.ringable("a", "c"), ["c"])
        talking(self.board, "c", "e")
        self.assertEqual(self.board.ringable("a", "c"), [])
        self.assertEqual(self.board.ringable("a", "b"), ["b"])

    def test_not_the_caller(self):
        self.assertEqual(self.board.ringable("a", "a"), [])
        self.assertEqual(self.board.ringable("a", "g"), ["b", "c"])
        self.assertEqual(self.board.ringable("d", "t"), ["c", "b"])
        self.assertEqual(self.board.ringable("e", "s"), [])

    def test_a_group_in_the_order_of_its_members(self):
        self.assertEqual(self.board.ringable("f", "g"), ["b", "a", "c"])
        self.assertEqual(self.board.ringable("f", "t"), ["d", "c", "b"])

    def test_a_group_whatever_its_place(self):
        self.board.apply(("next", "t", 2))
        self.assertEqual(self.board.ringable("f", "t"), ["d", "c", "b"])

    def test_those_that_are_free(self):
        talking(self.board, "c", "e")
        self.assertEqual(self.board.ringable("f", "g"), ["b", "a"])
        self.assertEqual(self.board.ringable("f", "t"), ["d", "b"])
        ringing(self.board, "d", "b")
        self.assertEqual(self.board.ringable("f", "t"), ["b"])
        ringing(self.board, "a", "b")
        self.assertEqual(self.board.ringable("f", "t"), [])
        self.assertEqual(self.board.ringable("f", "g"), ["a"])
        self.assertEqual(self.board.ringable("a", "g"), [])

    def test_each_state(self):
        for begun, free in ((ringing, False), (talking, False), (waiting, True), (over, True), (tried, True)):
            board = new_board()
            begun(board, "d", "c")
            with self.subTest(begun=begun):
                self.assertEqual(board.ringable("a", "c"), ["c"] if free else [])
        for holder in ("c", "d"):
            board = new_board()
            held(board, "d", "c", holder)
            self.assertEqual((board.ringable("a", "c"), board.ringable("a", "d")), ([], []))

    def test_a_caller_that_rings_or_waits_is_in_its_call(self):
        for begun in (tried, ringing, waiting):
            board = new_board()
            begun(board, "c", "b")
            with self.subTest(begun=begun):
                self.assertEqual(board.ringable("a", "c"), [])

    def test_a_told_list_that_is_changed(self):
        before = whole(self.board)
        for target in ("c", "g", "t"):
            told = self.board.ringable("f", target)
            self.assertIsNot(told, self.board.ringable("f", target))
            again = list(told)
            told.reverse()
            told.append("x")
            self.assertEqual(self.board.ringable("f", target), again)
        self.assertEqual(whole(self.board), before)
        self.assertEqual(self.board.plan.phones_of("t"), ["d", "c", "b"])

    def test_a_told_list_stays_as_it_was_told(self):
        told = self.board.ringable("f", "g")
        talking(self.board, "c", "e")
        self.assertEqual(told, ["b", "a", "c"])


class Events(unittest.TestCase):
    """Each event by itself: whatever it does not change stays as it was."""

    def setUp(self):
        board = new_board()
        make(board, ("turn",), ("next", "t", 1))
        ringing(board, "a", "g", "b", "c")
        board.apply(("turn",))
        talking(board, "d", "e")
        waiting(board, "f", "e")
        self.board = board
        self.before = whole(board)

    def check(self, event, calls=None, **changed):
        """Applies the event; calls tells for some numbers the values that are new, the others stay."""
        turn, was, legs, nexts, on, log = copy.deepcopy(self.before)
        names = ("state", "caller", "way", "at", "members", "holder", "since", "word")
        now = [dict(zip(names, row)) for row in was]
        for number, new in (calls or {}).items():
            if number == len(now):
                now.append({})
            now[number].update(new)
        self.assertIsNone(self.board.apply(event))
        expected = (
            changed.get("turn", turn), [tuple(call[name] for name in names) for call in now],
            changed.get("legs", legs), changed.get("nexts", nexts), changed.get("on", on), log + [event],
        )
        self.assertEqual(whole(self.board), expected)
        self.assertEqual(self.board.plan.on, [True, False, True])
        self.before = whole(self.board)

    def test_where_it_begins(self):
        turn, calls, legs, nexts, on, log = self.before
        self.assertEqual(calls, [
            ("rings", "a", ["g"], ["b", "c"], [], None, 1, None),
            ("talks", "d", ["e"], [], ["d", "e"], None, 0, None),
            ("waits", "f", ["e"], ["e"], [], None, 0, None),
        ])
        self.assertEqual(legs, [(0, "a", "g", "a"), (1, "d", "e", "d"), (2, "f", "e", "f")])
        self.assertEqual((turn, nexts, on), (2, {"t": 1, "s": 0}, [True, False, True]))
        self.assertEqual(log[:5], [("turn",), ("next", "t", 1), ("new", 0, "a"), ("leg", 0, "a", "g", "a"),
                                   ("asks", 0, "g", ())])

    def test_new(self):
        made = {"state": "rings", "caller": "b", "way": [], "at": [], "members": [], "holder": None, "since": 0,
                "word": None}
        self.check(("new", 3, "b"), {3: made})
        self.assertIsInstance(self.board.calls[3], Call)

    def test_leg(self):
        legs = self.before[2] + [(0, "g", "d", "g")]
        self.check(("leg", 0, "g", "d", "g"), {0: {"way": ["g", "d"]}}, legs=legs)
        legs = legs + [(2, "e", "b", "e")]
        self.check(("leg", 2, "e", "b", "e"), {2: {"way": ["e", "b"]}}, legs=legs)

    def test_a_leg_by_another(self):
        legs = self.before[2] + [(0, "g", "d", "b")]
        self.check(("leg", 0, "g", "d", "b"), {0: {"way": ["g", "d"]}}, legs=legs)

    def test_asks(self):
        self.check(("asks", 0, "g", (0, 2)))
        self.check(("asks", 2, "b", ()))

    def test_next(self):
        self.check(("next", "t", 2), nexts={"t": 2, "s": 0})
        self.check(("next", "t", 0), nexts={"t": 0, "s": 0})
        self.check(("next", "s", 0), nexts={"t": 0, "s": 0})

    def test_rings(self):
        self.check(("rings", 0, ("d", "c")), {0: {"at": ["d", "c"], "since": 0}})
        self.check(("turn",), {0: {"since": 1}}, turn=3)
        self.check(("rings", 0, ("b",)), {0: {"at": ["b"], "since": 0}})

    def test_rings_what_waited(self):
        self.check(("rings", 2, ("b",)), {2: {"state": "rings", "at": ["b"], "since": 0}})

    def test_quiet(self):
        self.check(("quiet", 0), {0: {"at": []}})

    def test_waits(self):
        self.check(("waits", 0, "d"), {0: {"state": "waits", "at": ["d"]}})

    def test_talks_what_rang(self):
        self.check(("talks", 0, ("a", "c")), {0: {"state": "talks", "members": ["a", "c"], "at": []}})

    def test_talks_what_waited(self):
        self.check(("talks", 2, ("f", "e")), {2: {"state": "talks", "members": ["f", "e"], "at": []}})

    def test_held_and_talks_again(self):
        self.check(("held", 1, "e"), {1: {"state": "held", "holder": "e"}})
        self.check(("talks", 1, ("d", "e")), {1: {"state": "talks", "holder": None}})

    def test_leaves_at(self):
        self.check(("leaves", 0, "b"), {0: {"at": ["c"]}})
        self.check(("leaves", 0, "c"), {0: {"at": []}})
        self.check(("leaves", 2, "e"), {2: {"at": []}})

    def test_leaves_members(self):
        self.check(("talks", 1, ("d", "e", "b")), {1: {"members": ["d", "e", "b"]}})
        self.check(("leaves", 1, "e"), {1: {"members": ["d", "b"]}})

    def test_over(self):
        self.check(("over", 0, "left"), {0: {"state": "over", "at": [], "word": "left"}})
        self.check(("over", 1, "done"), {1: {"state": "over", "members": [], "word": "done"}})
        self.check(("over", 2, "refused"), {2: {"state": "over", "at": [], "word": "refused"}})

    def test_over_what_was_held(self):
        self.check(("held", 1, "d"), {1: {"state": "held", "holder": "d"}})
        self.check(("over", 1, "done"), {1: {"state": "over", "members": [], "holder": None, "word": "done"}})

    def test_turn(self):
        self.check(("turn",), {0: {"since": 2}}, turn=3)
        self.check(("turn",), {0: {"since": 3}}, turn=4)

    def test_turn_counts_for_all_that_ring_alone(self):
        tried(self.board, "b", "c")
        self.board.apply(("held", 1, "d"))
        over(self.board, "c", "b")
        self.before = whole(self.board)
        self.check(("turn",), {0: {"since": 2}, 3: {"since": 1}}, turn=3)

    def test_since_stays_when_it_rings_no_more(self):
        self.check(("talks", 0, ("a", "b")), {0: {"state": "talks", "members": ["a", "b"], "at": []}})
        self.assertEqual(self.board.calls[0].since, 1)
        self.check(("turn",), turn=3)
        self.check(("held", 0, "b"), {0: {"state": "held", "holder": "b"}})
        self.check(("turn",), turn=4)
        self.check(("over", 0, "done"), {0: {"state": "over", "members": [], "holder": None, "word": "done"}})
        self.check(("turn",), turn=5)

    def test_since_stays_when_it_waits(self):
        self.check(("waits", 0, "d"), {0: {"state": "waits", "at": ["d"]}})
        self.check(("turn",), turn=3)
        self.assertEqual(self.board.calls[0].since, 1)

    def test_on_and_off(self):
        self.check(("off", 0), on=[False, False, True])
        self.check(("on", 1), on=[False, True, True])
        self.check(("off", 2), on=[False, True, False])
        self.check(("on", 0), on=[True, True, False])

    def test_merge_of_a_held_call(self):
        self.board.apply(("over", 2, "left"))
        held(self.board, "f", "e", "f")
        make(self.board, ("talks", 0, ("a", "f")), ("leg", 3, "e", "b", "e"))
        self.before = whole(self.board)
        legs = [(0, "a", "g", "a"), (1, "d", "e", "d"), (2, "f", "e", "f"), (0, "f", "e", "f"), (0, "e", "b", "e")]
        merged = {"state": "over", "word": "merged", "at": [], "members": [], "holder": None}
        self.check(("merge", 3, 0, ("e", "a")), {3: merged, 0: {"members": ["e", "a"]}}, legs=legs)

    def test_merge_of_a_ringing_call(self):
        legs = [(1, "a", "g", "a"), (1, "d", "e", "d"), (2, "f", "e", "f")]
        merged = {"state": "over", "word": "merged", "at": []}
        self.check(("merge", 0, 1, ("d", "e", "a")), {0: merged, 1: {"members": ["d", "e", "a"]}}, legs=legs)
        legs = [(2, "a", "g", "a"), (2, "d", "e", "d"), (2, "f", "e", "f")]
        merged = {"state": "over", "word": "merged", "members": []}
        self.check(("merge", 1, 2, ("a", "b")), {1: merged, 2: {"members": ["a", "b"]}}, legs=legs)

    def test_legs_behind_a_merge(self):
        self.board.apply(("merge", 0, 1, ("d", "e", "a")))
        self.before = whole(self.board)
        legs = self.before[2] + [(3, "b", "c", "b")]
        made = {"state": "rings", "caller": "b", "way": [], "at": [], "members": [], "holder": None, "since": 0,
                "word": None}
        self.check(("new", 3, "b"), {3: made})
        self.check(("leg", 3, "b", "c", "b"), {3: {"way": ["c"]}}, legs=legs)

    def test_kinds_of_values(self):
        for event in (("rings", 0, ("b", "c")), ("talks", 0, ("a", "b")), ("merge", 2, 0, ("a", "b", "f"))):
            self.board.apply(event)
            for call in self.board.calls:
                for told in (call.way, call.at, call.members):
                    self.assertIsInstance(told, list)
            for leg in self.board.legs:
                self.assertIsInstance(leg, tuple)


class Pictures(unittest.TestCase):
    def board_of_all_states(self):
        board = new_board(22)
        ringing(board, "a", "g", "b", "c")
        waiting(board, "b", "d")
        board.apply(("turn",))
        talking(board, "e", "d")
        held(board, "c", "f", "f")
        over(board, "a", "f")
        make(board, ("turn",), ("leg", 0, "g", "e", "g"), ("next", "t", 2), ("on", 1), ("off", 0))
        return board

    def test_new(self):
        self.assertEqual(picture(new_board()), (0, (), (("s", 0), ("t", 0)), (True, False, True)))
        self.assertEqual(picture(Board(Plan([("a", 1, 0)], [], []), 0)), (0, (), (), ()))

    def test_all_states(self):
        self.assertEqual(picture(self.board_of_all_states()), (
            2,
            (
                ("rings", "a", ("g", "e"), ("b", "c"), (), None, 2, None),
                ("waits", "b", ("d",), ("d",), (), None, 0, None),
                ("talks", "e", ("d",), (), ("e", "d"), None, 0, None),
                ("held", "c", ("f",), (), ("c", "f"), "f", 0, None),
                ("over", "a", ("f",), (), (), None, 0, "done"),
            ),
            (("s", 0), ("t", 2)),
            (False, True, True),
        ))

    def test_pairs_of_nexts_rise(self):
        groups = [("z", "turns", ("a",)), ("m", "turns", ("b",)), ("c", "turns", ("a", "b"))]
        board = Board(Plan([("a", 1, 0), ("b", 1, 0)], groups, []), 0)
        board.apply(("next", "c", 1))
        self.assertEqual(picture(board)[2], (("c", 1), ("m", 0), ("z", 0)))

    def test_tuples_all_through(self):
        def look(told):
            self.assertNotIsInstance(told, (list, dict))
            if isinstance(told, tuple):
                for part in told:
                    look(part)

        look(picture(self.board_of_all_states()))

    def test_stays_as_it_was_told_and_changes_nothing(self):
        board = self.board_of_all_states()
        before = whole(board)
        told = picture(board)
        self.assertEqual(whole(board), before)
        again = copy.deepcopy(told)
        make(board, ("turn",), ("off", 2), ("next", "t", 0), ("talks", 0, ("a", "b")))
        self.assertEqual(told, again)
        self.assertNotEqual(picture(board), again)


class Own(unittest.TestCase):
    def test_asking_changes_nothing(self):
        board = new_board()
        talking(board, "a", "b")
        waiting(board, "f", "c")
        before = whole(board)
        for phone, lines, rank in PHONES:
            for ask in (board.used, board.is_free, board.talk_of, board.bound, board.calling, board.waits_at):
                ask(phone)
            for name in board.plan.names():
                board.ringable(phone, name)
        board.hour_now()
        self.assertEqual(whole(board), before)

    def test_no_two_lists_of_a_board_are_one(self):
        board = new_board()
        ringing(board, "a", "g", "b", "c")
        talking(board, "d", "e")
        board.apply(("merge", 0, 1, ("d", "e", "a")))
        tried(board, "b", "c")
        plan = board.plan
        lists = [board.calls, board.legs, board.on, board.log, plan.phones, plan.groups, plan.wishes, plan.on]
        for call in board.calls:
            lists += [call.way, call.at, call.members]
        self.assertEqual(len({id(told) for told in lists}), len(lists))


if __name__ == "__main__":
    unittest.main()
