"""Reading sheets, and the line at which a text is none."""

import random
import re
import unittest

from callboard.errors import CallError, NoDeed, NoPlan, NoSheet
from callboard.plans import Plan
from callboard.sheet import read_sheet
from callboard.texts import show_plan

PLAN = "phone a 2 5\nphone b 1 0\ngroup g turns b a\nalways b g\noff night a g 22 6"
PLAN_ROWS = 5

NAME = "[a-z]{1,6}"
NUMBER = "(0|[1-9][0-9]{0,2})"
ORDER = re.compile(
    f"call {NAME} {NAME}|(answer|hang|hold|back) {NAME} {NUMBER}|(hand|join) {NAME} {NUMBER} {NUMBER}|turn"
    f"|(on|off) {NUMBER}|show|owed|rings|look [0-2]"
)
HOUR = re.compile("hour ([0-9]|1[0-9]|2[0-3])")


class Sheets(unittest.TestCase):
    def read(self, *rows, plan=PLAN, hour="hour 7"):
        return read_sheet("\n".join([plan, hour, *rows]))

    def orders(self, *rows):
        told = self.read(*rows)
        self.assertIsInstance(told, tuple)
        self.assertEqual(len(told), 3)
        self.assertIsInstance(told[0], Plan)
        self.assertEqual(show_plan(told[0]), PLAN)
        self.assertEqual(told[1], 7)
        self.assertIsInstance(told[2], list)
        return told[2]

    def check_line(self, text, line):
        with self.assertRaises(NoSheet) as caught:
            read_sheet(text)
        self.assertEqual(caught.exception.line, line, text)
        self.assertIsInstance(caught.exception, CallError)
        self.assertNotIsInstance(caught.exception, (NoPlan, NoDeed))

    def check_bad(self, *rows):
        """Each row is bad by itself, and told at its own place."""
        for row in rows:
            with self.subTest(row=row):
                self.check_line("\n".join([PLAN, "hour 7", row]), PLAN_ROWS + 2)
                self.check_line("\n".join([PLAN, "hour 7", "turn", "show", row, "turn"]), PLAN_ROWS + 4)

    def check_good(self, *pairs):
        for row, order in pairs:
            with self.subTest(row=row):
                told = self.orders(row)
                self.assertEqual(told, [order])
                self.assertIsInstance(told[0], tuple)
                self.assertEqual([isinstance(part, int) for part in told[0]], [isinstance(part, int) for part in order])


class Orders(Sheets):
    def test_no_orders(self):
        self.assertEqual(self.orders(), [])

    def test_deeds(self):
        self.check_good(
            ("call a b", ("call", "a", "b")), ("answer b 0", ("answer", "b", 0)), ("hang a 1", ("hang", "a", 1)),
            ("hold a 2", ("hold", "a", 2)), ("back a 3", ("back", "a", 3)), ("hand a 4 5", ("hand", "a", 4, 5)),
            ("join a 6 7", ("join", "a", 6, 7)), ("turn", ("turn",)), ("on 8", ("on", 8)), ("off 9", ("off", 9)),
        )

    def test_others(self):
        self.check_good(
            ("show", ("show",)), ("owed", ("owed",)), ("rings", ("rings",)), ("look 0", ("look", 0)),
            ("look 1", ("look", 1)), ("look 2", ("look", 2)),
        )

    def test_many_in_order(self):
        told = self.orders("call a b", "show", "show", "look 2", "turn", "call a b", "on 0")
        self.assertEqual(told, [
            ("call", "a", "b"), ("show",), ("show",), ("look", 2), ("turn",), ("call", "a", "b"), ("on", 0),
        ])

    def test_more_rows_than_a_sheet_has(self):
        self.assertEqual(self.orders(*["turn"] * 300), [("turn",)] * 300)

    def test_other_words(self):
        self.check_bad(
            "rest", "calls a b", "Call a b", "CALL a b", "shows", "phone c 1 0", "group h all a", "always a b",
            "wait a", "off wait a", "new 0 a", "ring", "looks 1", "0", "a", "hour", "hour 8", "hour 7", ".",
            "call,a,b", "~",
        )

    def test_words_more_or_less(self):
        self.check_bad(
            "call", "call a", "call a b c", "answer", "answer a", "answer a 0 1", "hang a", "hang a 0 0", "hold a",
            "hold a 0 0", "back a", "back a 0 0", "hand a 0", "hand a 0 1 2", "join a 0", "join a 0 1 2", "turn 1",
            "turn a", "on", "on 0 1", "off", "off 0 1", "show 0", "show a", "owed a", "rings a", "rings 0", "look",
            "look 1 1",
        )

    def test_kinds_changed(self):
        self.check_bad(
            "call 0 b", "call a 0", "answer 0 a", "answer a a", "hang a b", "hold 0 0", "back a x", "hand a b 0",
            "hand a 0 b", "join 0 1 a", "on a", "off b", "look a", "on off",
        )

    def test_blanks(self):
        self.check_bad(
            " turn", "turn ", "call  a b", "call a  b", " call a b", "call a b ", "show ", " show", "look  1",
            "look 1 ", "on ", " ", "  ", "call a ", "call  a",
        )


class Numbers(Sheets):
    def test_one_to_three_figures(self):
        for number in (0, 1, 9, 10, 15, 16, 99, 100, 101, 255, 256, 999):
            self.check_good(
                (f"on {number}", ("on", number)), (f"off {number}", ("off", number)),
                (f"answer a {number}", ("answer", "a", number)), (f"hang a {number}", ("hang", "a", number)),
                (f"hold a {number}", ("hold", "a", number)), (f"back a {number}", ("back", "a", number)),
                (f"hand a {number} 0", ("hand", "a", number, 0)), (f"hand a 1 {number}", ("hand", "a", 1, number)),
                (f"join a {number} 999", ("join", "a", number, 999)),
            )

    def test_four_figures_and_more(self):
        self.check_bad("on 1000", "hang a 9999", "hand a 0 1000", "hand a 1000 0", "off " + "1" * 60, "look 1000")

    def test_a_nought_ahead(self):
        self.check_bad(
            "on 00", "on 01", "on 000", "on 010", "on 001", "off 09", "hang a 00", "hand a 01 1", "hand a 1 01",
            "join a 000 1", "answer a 099", "on 0000", "on 0001",
        )

    def test_other_signs(self):
        self.check_bad(
            "on -1", "on +1", "on 1.", "on 1.0", "on 1_0", "on 0x1", "hang a -0", "on 1e1", "on '1'", "on (1)",
        )

    def test_look(self):
        self.check_bad("look 3", "look 4", "look 9", "look 10", "look 12", "look 00", "look 01", "look 02", "look -1")


class Names(Sheets):
    def test_names_that_are_there_or_not(self):
        self.check_good(
            ("call z z", ("call", "z", "z")), ("call g a", ("call", "g", "a")), ("call a g", ("call", "a", "g")),
            ("hang zz 0", ("hang", "zz", 0)), ("answer g 0", ("answer", "g", 0)), ("hand q 0 1", ("hand", "q", 0, 1)),
        )

    def test_up_to_six_signs(self):
        self.check_good(
            ("call abcdef zzzzzz", ("call", "abcdef", "zzzzzz")), ("join abcxyz 1 0", ("join", "abcxyz", 1, 0)),
        )
        self.check_bad("call abcdefg a", "call a abcdefg", "hang aaaaaaa 0")

    def test_words_as_names(self):
        self.check_good(
            ("call call call", ("call", "call", "call")), ("call hour turn", ("call", "hour", "turn")),
            ("call show off", ("call", "show", "off")), ("hang look 0", ("hang", "look", 0)),
            ("hold on 1", ("hold", "on", 1)), ("call owed rings", ("call", "owed", "rings")),
        )

    def test_other_signs(self):
        self.check_bad(
            "call A b", "call a B", "call a1 b", "call a b2", "hang a_ 0", "hang - 0", "call a, b", "call ~ a",
        )


class EmptyRows(Sheets):
    def test_behind_the_hour(self):
        self.check_bad("")

    def test_the_last_one_behind_a_line_feed(self):
        self.check_line(PLAN + "\nhour 7\n", PLAN_ROWS + 2)
        self.check_line(PLAN + "\nhour 7\nturn\n", PLAN_ROWS + 3)
        self.check_line(PLAN + "\nhour 7\nturn\n\n", PLAN_ROWS + 3)

    def test_ahead_of_the_hour(self):
        self.check_line(PLAN + "\n\nhour 7\nturn", PLAN_ROWS + 2)
        self.check_line("\n" + PLAN + "\nhour 7\nturn", PLAN_ROWS + 2)
        self.check_line("\nhour 7", 2)


class NoHour(Sheets):
    def test_no_row_begins_with_it(self):
        self.check_line(PLAN, PLAN_ROWS + 1)
        self.check_line(PLAN + "\nturn\nshow", PLAN_ROWS + 3)
        self.check_line(PLAN + "\n", PLAN_ROWS + 2)
        self.check_line("phone a 1 0", 2)

    def test_it_stands_elsewhere_in_a_row(self):
        self.check_line(PLAN + "\nturn hour 7", PLAN_ROWS + 2)
        self.check_line("phone hour 1 0\nalways hour hour", 3)

    def test_a_longer_word(self):
        self.check_line(PLAN + "\nhours 7", PLAN_ROWS + 2)
        self.check_line(PLAN + "\nhour7", PLAN_ROWS + 2)
        self.check_line(PLAN + "\nHour 7\nturn", PLAN_ROWS + 3)
        self.check_line(PLAN + "\n7 hour", PLAN_ROWS + 2)

    def test_a_blank_ahead(self):
        self.check_line(PLAN + "\n hour 7", PLAN_ROWS + 2)

    def test_an_empty_text(self):
        # It has one row, which is empty.
        self.check_line("", 2)
        self.check_line("\n", 3)


class BadHours(Sheets):
    def test_each_hour(self):
        for hour in range(24):
            told = self.read("turn", hour=f"hour {hour}")
            self.assertEqual(told[1:], (hour, [("turn",)]))

    def test_bad_hours(self):
        for hour in (
            "24", "25", "30", "99", "100", "240", "024", "00", "01", "07", "000", "007", "-1", "+7", "a", "7.", "7a",
            "hour", "", "1" * 60, "7 7", "7 ", " 7", "7 turn", "7 a", "1000",
        ):
            with self.subTest(hour=hour):
                self.check_line(f"{PLAN}\nhour {hour}", PLAN_ROWS + 1)
                self.check_line(f"{PLAN}\nhour {hour}\nturn\nhour 7\nbad", PLAN_ROWS + 1)

    def test_the_word_alone(self):
        self.check_line(f"{PLAN}\nhour", PLAN_ROWS + 1)
        self.check_line(f"{PLAN}\nhour\nturn", PLAN_ROWS + 1)

    def test_the_first_row_counts(self):
        self.check_line(f"{PLAN}\nhour 24\nhour 7", PLAN_ROWS + 1)
        self.check_line(f"{PLAN}\nhour 7\nhour 24", PLAN_ROWS + 2)
        self.check_line(f"{PLAN}\nhour 7\nhour 7", PLAN_ROWS + 2)


class BadPlans(Sheets):
    def test_no_rows_ahead(self):
        self.check_line("hour 7", 1)
        self.check_line("hour 7\nturn", 1)
        self.check_line(f"hour 7\n{PLAN}\nhour 7", 1)

    def test_bad_rows_ahead_are_told_at_the_hours(self):
        for plan in (
            "phone a 4 5", "phone a 01 5", "phone a 1 5 ", "phone a 1 5\nphone a 1 5", "wait a\nphone a 1 5",
            "phone a 1 5\nturn", "phone a 1 5\nshow", "bad\nphone a 1 5\nbad", "phone a 1 5\nalways a a",
            "phone a 1 5\noff", "phone a 1 5\noff 0", "group g all a",
        ):
            with self.subTest(plan=plan):
                line = len(plan.split("\n")) + 1
                self.check_line(f"{plan}\nhour 7\nturn", line)
                self.check_line(f"{plan}\nhour 7\nbad\nturn\n", line)
                self.check_line(f"{plan}\nhour 24", line)


class BadRows(Sheets):
    def test_the_first_one_is_told(self):
        self.check_line(f"{PLAN}\nhour 7\nturn\nbad\nturn\nworse\n", PLAN_ROWS + 3)
        self.check_line(f"{PLAN}\nhour 7\n\nbad", PLAN_ROWS + 2)
        self.check_line(f"{PLAN}\nhour 7\nlook 3\n\n", PLAN_ROWS + 2)
        self.check_line(f"{PLAN}\nhour 7\n" + "show\n" * 100 + "call a\nlook 3", PLAN_ROWS + 102)


class WordsAsNames(Sheets):
    def test_phones_called_like_words(self):
        plan = (
            "phone hour 1 0\nphone show 2 1\nphone turn 3 2\nphone off 1 9\ngroup look turns hour off\n"
            "group phone all show\nbar hour off show\noff always turn hour\nsilent off turn 9\noff wait off\n"
            "wait hour\nshut look hour turn"
        )
        told = self.read("call hour show", "off 3", "off 0", "turn", "show", "hang off 0", plan=plan, hour="hour 23")
        self.assertEqual(show_plan(told[0]), plan)
        self.assertEqual(told[0].names(), ["hour", "show", "turn", "off", "look", "phone"])
        self.assertEqual(told[0].on, [True, False, True, False, True, True])
        self.assertEqual(told[1:], (23, [
            ("call", "hour", "show"), ("off", 3), ("off", 0), ("turn",), ("show",), ("hang", "off", 0),
        ]))

    def test_a_plan_of_a_phone_called_hour(self):
        told = self.read("call hour hour", plan="phone hour 1 0", hour="hour 0")
        self.assertEqual(told[0].phones, [("hour", 1, 0)])
        self.assertEqual(told[1:], (0, [("call", "hour", "hour")]))
        self.check_line("phone hour 1 0\nhour 1 0", 2)
        self.check_line("phone hour 1 0\ncall hour hour", 3)


def drawn_row(chance):
    """A row of some words, of which many are orders, now and then with a sign changed."""
    word = chance.choice("call answer hang hold back hand join turn on off show owed rings look hour".split())
    many = {"call": (2, 0), "hand": (1, 2), "join": (1, 2), "on": (0, 1), "off": (0, 1), "look": (0, 1), "hour": (0, 1)}
    names, numbers = many.get(word, (0, 0) if word in ("turn", "show", "owed", "rings") else (1, 1))
    words = [word] + [chance.choice(("a", "b", "g", "hour", "abcdef", "zz")) for again in range(names)]
    words += [chance.choice(("0", "1", "2", "7", "10", "23", "24", "100", "999")) for again in range(numbers)]
    row = " ".join(words)
    if chance.random() < 0.2:
        place = chance.randint(0, len(row))
        row = row[:place] + chance.choice(" 0a1-hG") + row[place + chance.randint(0, 1):]
    return "" if chance.random() < 0.02 else row


class DrawnRows(Sheets):
    def test_as_told(self):
        chance = random.Random("rows of sheets")
        lines = []
        for again in range(3000):
            ahead = [drawn_row(chance)] if chance.random() < 0.1 else []
            hour = [f"hour {chance.randint(0, 25)}"] if chance.random() < 0.9 else []
            behind = [drawn_row(chance) for again in range(chance.randint(0, 4))]
            rows = PLAN.split("\n") + ahead + hour + behind
            line = self.line_of(rows)
            lines.append(line)
            if line is None:
                told = read_sheet("\n".join(rows))[2]
                self.assertEqual([" ".join(str(part) for part in order) for order in told], rows[PLAN_ROWS + 1:])
            else:
                self.check_line("\n".join(rows), line)
        for line in (None, PLAN_ROWS + 1, PLAN_ROWS + 2, PLAN_ROWS + 3):
            self.assertGreater(lines.count(line), 100, line)

    def line_of(self, rows):
        """As point 23 tells it, where the first rows are the plan's."""
        hours = [place for place, row in enumerate(rows) if re.fullmatch("hour( .*)?", row)]
        if not hours:
            return len(rows) + 1
        if hours[0] > PLAN_ROWS or not HOUR.fullmatch(rows[hours[0]]):
            return hours[0] + 1
        bad = [place for place, row in enumerate(rows) if place > hours[0] and not ORDER.fullmatch(row)]
        return bad[0] + 1 if bad else None


class Own(Sheets):
    def test_what_is_told_is_the_askers_own(self):
        text = PLAN + "\nhour 7\nturn\nshow"
        first, second = read_sheet(text), read_sheet(text)
        self.assertIsNot(first[2], second[2])
        first[2].clear()
        self.assertEqual(second[2], [("turn",), ("show",)])
        self.assertEqual(read_sheet(text)[2], [("turn",), ("show",)])
        self.assertIsNot(first[0], second[0])


if __name__ == "__main__":
    unittest.main()
