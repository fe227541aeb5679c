"""Running sheets: an answer for each order."""

import copy
import unittest

from callboard.bills import owed
from callboard.board import Board, picture
from callboard.deeds import do
from callboard.errors import NoDeed, NoPlan, NoSheet
from callboard.plans import Plan
from callboard.run import run

PHONES = "phone a 2 5\nphone b 1 4\nphone c 1 3\nphone d 1 2"
WISHES = "always b g\nwait c\noff busy c d\nsilent g d 2"
PLAN = f"{PHONES}\ngroup g turns c a\n{WISHES}"


def answers(*orders, plan=PLAN, hour=12):
    return run("\n".join([plan, f"hour {hour}", *orders]))


class EachKind(unittest.TestCase):
    def test_no_orders(self):
        self.assertEqual(answers(), [])
        self.assertIsInstance(answers(), list)

    def test_a_deed_that_is_done(self):
        self.assertEqual(answers("call a b", "answer c 0", "turn"), [
            ("done", [
                ("new", 0, "a"), ("leg", 0, "a", "b", "a"), ("asks", 0, "b", (0,)), ("leg", 0, "b", "g", "b"),
                ("asks", 0, "g", ()), ("next", "g", 1), ("rings", 0, ("c",)),
            ]),
            ("done", [("talks", 0, ("a", "c"))]),
            ("done", [("turn",)]),
        ])

    def test_each_deed(self):
        told = answers(
            "call a d", "answer d 0", "hold a 0", "back a 0", "hold a 0", "call a c", "answer c 1", "hand a 0 1",
            "hang d 1", "call d c", "answer c 2", "hold c 2", "turn", "off 0", "on 2", "hang c 2",
        )
        self.assertEqual([answer[0] for answer in told], ["done"] * 16)
        self.assertEqual([answer[1][-1] for answer in told], [
            ("rings", 0, ("d",)), ("talks", 0, ("a", "d")), ("held", 0, "a"), ("talks", 0, ("a", "d")),
            ("held", 0, "a"), ("rings", 1, ("c",)), ("talks", 1, ("a", "c")), ("merge", 0, 1, ("d", "c")),
            ("over", 1, "done"), ("rings", 2, ("c",)), ("talks", 2, ("d", "c")), ("held", 2, "c"), ("turn",),
            ("off", 0), ("on", 2), ("over", 2, "done"),
        ])

    def test_join(self):
        told = answers("call a d", "answer d 0", "hold a 0", "call a c", "answer c 1", "join a 0 1", "show")
        self.assertEqual(told[-2], ("done", [("merge", 0, 1, ("a", "d", "c"))]))
        self.assertEqual(told[-1][1][1][1][4], ("a", "d", "c"))

    def test_each_word_of_refusal(self):
        told = answers(
            "call z a", "call a z", "call g a", "hang z 0", "answer a 0", "hang a 0", "hold a 0", "back a 0",
            "hand a 0 1", "join a 0 1", "on 0", "off 2", "on 4", "off 999", "call a d", "call a c", "call d a",
            "answer d 0", "call d a", "call c a", "call b c", "answer c 2",
        )
        self.assertEqual([answer for answer in told if answer[0] == "refused"], [
            ("refused", "name"), ("refused", "name"), ("refused", "name"), ("refused", "name"), ("refused", "call"),
            ("refused", "call"), ("refused", "call"), ("refused", "call"), ("refused", "call"), ("refused", "call"),
            ("refused", "wish"), ("refused", "wish"), ("refused", "wish"), ("refused", "wish"), ("refused", "calls"),
            ("refused", "full"), ("refused", "bound"), ("refused", "calls"),
        ])
        self.assertEqual(len(told), 22)

    def test_show(self):
        self.assertEqual(answers("show", "call a b", "turn", "show"), [
            ("show", (0, (), (("g", 0),), (True, True, False, True))),
            ("done", answers("call a b")[0][1]),
            ("done", [("turn",)]),
            ("show", (
                1, (("rings", "a", ("b", "g"), ("c",), (), None, 1, None),), (("g", 1),), (True, True, False, True),
            )),
        ])

    def test_owed(self):
        told = answers("owed", "call a b", "owed", "answer c 0", "turn", "turn", "owed", "call d c", "turn", "owed")
        self.assertEqual([answer for answer in told if answer[0] == "owed"], [
            ("owed", []), ("owed", [("a", 0), ("b", 0)]), ("owed", [("a", 2), ("b", 2)]),
            ("owed", [("a", 3), ("b", 3), ("d", 0)]),
        ])
        self.assertIsInstance(told[0][1], list)

    def test_rings(self):
        self.assertEqual(answers("rings"), [("rings", [])])
        plan = "phone b 1 0\nphone a 1 0\nphone c 1 0\nalways a b\nbusy b a\noff always b c\nalways c b\nsilent a c 1"
        self.assertEqual(answers("rings", plan=plan), [("rings", [["a", "b"], ["a", "c", "b"]])])

    def test_look(self):
        told = ("clash", [("call", "a", "b"), ("call", "c", "b")], ("b", 0, 1))
        self.assertEqual(answers("look 0", "look 1", "look 2", plan=f"{PHONES}\nbusy b d\nwait b"), [
            ("look", ("none",)), ("look", ("none",)), ("look", told),
        ])

    def test_look_by_the_hour(self):
        plan = f"{PHONES}\nnight b d 13 14\nalways b c"
        for hour, told in [
            (11, ("none",)), (12, ("clash", [("turn",), ("call", "a", "b")], ("b", 0, 1))),
            (13, ("clash", [("call", "a", "b")], ("b", 0, 1))), (14, ("none",)),
        ]:
            self.assertEqual(answers("look 2", "turn", "look 2", plan=plan, hour=hour)[::2], [("look", told)] * 2)

    def test_the_hour(self):
        plan = f"{PHONES}\nnight b d 22 6"
        for hour, phone in [(0, "d"), (5, "d"), (6, "b"), (21, "b"), (22, "d"), (23, "d")]:
            self.assertEqual(answers("call a b", plan=plan, hour=hour)[0][1][-1], ("rings", 0, (phone,)))
        self.assertEqual(answers("turn", "call a b", plan=plan, hour=21)[1][1][-1], ("rings", 0, ("d",)))


class Refused(unittest.TestCase):
    def test_nothing_is_changed(self):
        told = answers(
            "call a b", "show", "call a c", "answer b 0", "off 2", "on 99", "hang q 0", "show", "owed", "turn",
        )
        self.assertEqual([answer[0] for answer in told[2:7]], ["refused"] * 5)
        self.assertEqual([answer[1] for answer in told[2:7]], ["calls", "call", "wish", "wish", "name"])
        self.assertEqual(told[1], told[7])
        self.assertEqual(told[8:], answers("call a b", "owed", "turn")[1:])

    def test_a_text_that_is_no_sheet(self):
        for text, line in [
            ("", 2), ("turn", 2), (PLAN, 10), (f"{PLAN}\nhour 24", 10), (f"{PLAN}\nhour 1\nturn\nlook 3\nbad", 12),
            (f"{PLAN}\nhour 1\nturn\n", 12), ("phone a 4 0\nhour 1\nturn", 2), ("hour 1", 1),
        ]:
            with self.subTest(text=text):
                with self.assertRaises(NoSheet) as caught:
                    run(text)
                self.assertEqual(caught.exception.line, line)
                self.assertNotIsInstance(caught.exception, (NoPlan, NoDeed))


class OfThePlan(unittest.TestCase):
    def test_look_tells_of_a_new_board(self):
        plan = f"{PHONES}\nbusy b d\nwait b\nalways c d\noff always c a"
        told = ("look", ("clash", [("call", "a", "b"), ("call", "c", "b")], ("b", 0, 1)))
        orders = ["look 2", "call a b", "look 2", "off 1", "look 2", "on 3", "look 2", "turn", "off 0", "look 2"]
        found = answers(*orders, plan=plan)
        self.assertEqual([answer for answer in found if answer[0] == "look"], [told] * 5)
        self.assertEqual([answer[0] for answer in found], ["look", "done"] * 4 + ["done", "look"])

    def test_look_leaves_the_board_as_it_is(self):
        told = answers("call a b", "show", "look 2", "show", "owed", "look 1", "answer c 0", "show")
        self.assertEqual(told[1], told[3])
        self.assertEqual(told[6:], answers("call a b", "answer c 0", "show")[1:])

    def test_rings_tells_of_the_plan(self):
        plan = f"{PHONES}\nalways a b\nalways b a\noff always c d\nalways d c"
        told = answers("rings", "off 0", "rings", "on 2", "rings", "call a b", "rings", plan=plan)
        self.assertEqual([answer for answer in told if answer[0] == "rings"], [("rings", [["a", "b"]])] * 4)


class Own(unittest.TestCase):
    def check_own(self, told, first, second):
        """The two answers are alike, and a change of the one leaves the other as it is."""
        self.assertEqual(told[first], told[second])
        kept = copy.deepcopy(told[second])
        self.assertIsNot(told[first][1], told[second][1])
        told[first][1].append("more")
        told[first][1].reverse()
        self.assertEqual(told[second], kept)

    def test_show_twice(self):
        told = answers("call a b", "show", "show", "turn", "show")
        self.assertEqual(told[1], told[2])
        self.assertNotEqual(told[2], told[4])

    def test_owed_twice(self):
        told = answers("call a b", "answer c 0", "turn", "owed", "owed", "turn", "owed")
        self.check_own(told, 3, 4)
        self.assertEqual(told[6], ("owed", [("a", 2), ("b", 2)]))

    def test_empty_lists(self):
        self.check_own(answers("owed", "owed"), 0, 1)
        self.check_own(answers("rings", "rings"), 0, 1)

    def test_rings_twice(self):
        told = answers("rings", "turn", "rings", "rings", plan=f"{PHONES}\nalways a b\nalways b a")
        kept = copy.deepcopy(told[3])
        for one in (0, 2):
            self.assertEqual(told[one], kept)
            self.assertIsNot(told[one][1], told[3][1])
            self.assertIsNot(told[one][1][0], told[3][1][0])
            told[one][1][0].reverse()
            told[one][1][0].append("c")
            self.assertEqual(told[3], kept)
            told[one][1].clear()
            self.assertEqual(told[3], kept)

    def test_look_twice(self):
        told = answers("look 2", "look 2", "look 1", plan=f"{PHONES}\nalways b d\nbar a b")
        kept = ("look", ("clash", [("call", "a", "b")], ("b", 0, 1)))
        self.assertEqual(told, [kept] * 3)
        kept = copy.deepcopy(kept)
        told[0][1][1].append(("turn",))
        self.assertEqual(told[1:], [kept] * 2)
        told[1][1][1].clear()
        self.assertEqual(told[2], kept)

    def test_deeds_twice(self):
        told = answers("turn", "turn", "call a a", "call a a")
        self.check_own(told, 0, 1)
        told[2][1].clear()
        self.assertEqual(told[3][1][0], ("new", 1, "a"))

    def test_the_answers_are_new_each_time(self):
        text = PLAN + "\nhour 1\ncall a b\nowed\nrings\nlook 1"
        told, kept = run(text), run(text)
        self.assertEqual(told, kept)
        for answer in told[:3]:
            answer[1].append("more")
        told.clear()
        self.assertEqual(run(text), kept)


class AsByHand(unittest.TestCase):
    def test_a_row_of_deeds(self):
        plan = Plan(
            [("a", 2, 5), ("b", 1, 4), ("c", 1, 3), ("d", 1, 2)], [("g", "turns", ("c", "a"))],
            [
                (True, ("always", "b", "g")), (True, ("wait", "c")), (False, ("busy", "c", "d")),
                (True, ("silent", "g", "d", 2)),
            ],
        )
        board = Board(plan, 12)
        deeds = [
            ("call", "b", "b"), ("turn",), ("turn",), ("answer", "d", 0), ("turn",), ("call", "a", "c"),
            ("call", "c", "a"), ("hang", "c", 1), ("on", 2), ("hang", "b", 0), ("turn",),
        ]
        expected, rows = [], []
        for deed in deeds:
            try:
                expected.append(("done", do(board, deed)))
            except NoDeed as refused:
                expected.append(("refused", refused.word))
            expected += [("show", picture(board)), ("owed", owed(board.log))]
            rows += [" ".join(str(part) for part in deed), "show", "owed"]
        self.assertEqual(answers(*rows), expected)
        self.assertIn(("refused", "full"), expected)


if __name__ == "__main__":
    unittest.main()
