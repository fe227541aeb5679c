import copy
import random
import re
import unittest

from callboard.errors import CallError, NoPlan
from callboard.plans import Plan
from callboard.texts import read_plan, show_plan

PHONES = [("mia", 2, 5), ("bo", 1, 0), ("al", 3, 9)]
GROUPS = [("desk", "turns", ("bo", "mia")), ("any", "all", ("al",))]
WISHES = [
    (True, ("bar", "mia", ("desk", "al"))), (False, ("shut", "any", ("bo", "mia"))),
    (True, ("always", "desk", "al")), (False, ("night", "al", "any", 22, 6)),
    (False, ("busy", "bo", "mia")), (True, ("silent", "any", "bo", 9)),
    (True, ("wait", "bo")), (False, ("breaks", "al")), (False, ("wait", "bo")),
    (False, ("bar", "bo", ("al",))), (True, ("shut", "mia", ("bo",))),
    (False, ("always", "al", "desk")), (True, ("night", "bo", "al", 0, 23)),
    (True, ("busy", "any", "desk")), (False, ("silent", "mia", "any", 1)), (True, ("breaks", "mia")),
]
TEXT = "\n".join([
    "phone mia 2 5", "phone bo 1 0", "phone al 3 9",
    "group desk turns bo mia", "group any all al",
    "bar mia desk al", "off shut any bo mia",
    "always desk al", "off night al any 22 6",
    "off busy bo mia", "silent any bo 9",
    "wait bo", "off breaks al", "off wait bo",
    "off bar bo al", "shut mia bo",
    "off always al desk", "night bo al 0 23",
    "busy any desk", "off silent mia any 1", "breaks mia",
])
WORDS = ("off", "phone", "group", "all", "turns", "bar", "shut", "always", "night", "busy", "silent", "wait", "breaks")
EIGHT = WORDS[5:]


def told_by(plan):
    return (plan.phones, plan.groups, list(zip(plan.on, [wish.told() for wish in plan.wishes])))


class Checks(unittest.TestCase):
    def same(self, text, phones, groups, wishes):
        plan = Plan(phones, groups, wishes)
        self.assertEqual(show_plan(plan), text)
        again = read_plan(text)
        self.assertIsInstance(again, Plan)
        self.assertEqual(told_by(again), (phones, groups, wishes))
        self.assertEqual(show_plan(again), text)

    def refused(self, text):
        with self.subTest(text=text):
            with self.assertRaises(NoPlan):
                read_plan(text)


class Shown(Checks):
    def test_all_forms_on_and_off(self):
        self.same(TEXT, PHONES, GROUPS, WISHES)

    def test_a_phone_alone(self):
        self.same("phone a 1 0", [("a", 1, 0)], [], [])

    def test_the_rows_that_the_document_shows(self):
        phones = [("a", 1, 0), ("b", 1, 0), ("c", 1, 0)]
        wishes = [(True, ("bar", "a", ("b", "c"))), (True, ("night", "a", "b", 22, 6)), (True, ("wait", "a"))]
        text = "phone a 1 0\nphone b 1 0\nphone c 1 0\nbar a b c\nnight a b 22 6\nwait a"
        self.same(text, phones, [], wishes)

    def test_without_groups_or_wishes(self):
        self.same("phone a 1 0\noff wait a", [("a", 1, 0)], [], [(False, ("wait", "a"))])
        self.same("phone a 1 0\ngroup g all a", [("a", 1, 0)], [("g", "all", ("a",))], [])

    def test_the_most_of_everything(self):
        phones = [(sign * 6, 3, 9) for sign in "abcdefgh"]
        names = tuple(phone[0] for phone in phones)
        groups = [(sign * 6, "turns", names[:4]) for sign in "xyz"]
        wishes = [(False, ("bar", "aaaaaa", ("zzzzzz",) + names[:5]))] * 16
        rows = [f"phone {name} 3 9" for name in names]
        rows += [f"group {sign * 6} turns {' '.join(names[:4])}" for sign in "xyz"]
        rows += [f"off bar aaaaaa zzzzzz {' '.join(names[:5])}"] * 16
        self.same("\n".join(rows), phones, groups, wishes)

    def test_every_number(self):
        for lines in (1, 2, 3):
            for rank in range(10):
                self.same(f"phone a {lines} {rank}", [("a", lines, rank)], [], [])
        two = "phone a 1 0\nphone b 1 0\n"
        phones = [("a", 1, 0), ("b", 1, 0)]
        for hour in range(24):
            last = (hour + 1) % 24
            self.same(f"{two}night a b {hour} {last}", phones, [], [(True, ("night", "a", "b", hour, last))])
        for turns in range(1, 10):
            self.same(f"{two}silent a b {turns}", phones, [], [(True, ("silent", "a", "b", turns))])

    def test_words_as_names_of_phones(self):
        for word in WORDS:
            wishes = [(on, (form, word)) for on in (True, False) for form in ("wait", "breaks")]
            wishes += [(on, (form, word, (word,))) for on in (True, False) for form in ("bar", "shut")]
            rows = [f"phone {word} 1 0", f"group x all {word}", f"wait {word}", f"breaks {word}", f"off wait {word}",
                    f"off breaks {word}", f"bar {word} {word}", f"shut {word} {word}", f"off bar {word} {word}",
                    f"off shut {word} {word}"]
            self.same("\n".join(rows), [(word, 1, 0)], [("x", "all", (word,))], wishes)

    def test_words_as_names_of_groups(self):
        for word in WORDS:
            for manner in ("all", "turns"):
                rows = ["phone x 1 0", f"group {word} {manner} x", f"always {word} x", f"off busy x {word}",
                        f"night {word} x 1 2", f"bar x x {word}", f"shut {word} x"]
                wishes = [(True, ("always", word, "x")), (False, ("busy", "x", word)),
                          (True, ("night", word, "x", 1, 2)), (True, ("bar", "x", ("x", word))),
                          (True, ("shut", word, ("x",)))]
                self.same("\n".join(rows), [("x", 1, 0)], [(word, manner, ("x",))], wishes)

    def test_words_among_one_another(self):
        phones = [("phone", 1, 0), ("off", 2, 1), ("bar", 3, 2)]
        groups = [("group", "all", ("off", "bar")), ("turns", "turns", ("phone",)), ("all", "all", ("bar",))]
        wishes = [(False, ("bar", "off", ("group", "phone"))), (True, ("always", "all", "off"))]
        text = ("phone phone 1 0\nphone off 2 1\nphone bar 3 2\ngroup group all off bar\ngroup turns turns phone\n"
                "group all all bar\noff bar off group phone\nalways all off")
        self.same(text, phones, groups, wishes)

    def test_two_wishes_may_be_alike(self):
        wishes = [(True, ("wait", "a"))] * 2 + [(False, ("wait", "a"))]
        self.same("phone a 1 0\nwait a\nwait a\noff wait a", [("a", 1, 0)], [], wishes)

    def test_nothing_is_changed(self):
        handed = (list(PHONES), list(GROUPS), list(WISHES))
        plan = Plan(*handed)
        before = copy.deepcopy(told_by(plan))
        show_plan(plan)
        self.assertEqual(told_by(plan), before)
        self.assertEqual(handed, (PHONES, GROUPS, WISHES))

    def test_two_readings_are_two_plans(self):
        one, other = read_plan(TEXT), read_plan(TEXT)
        self.assertIsNot(one, other)
        lists = [one.phones, one.groups, one.wishes, one.on, other.phones, other.groups, other.wishes, other.on]
        self.assertEqual(len({id(told) for told in lists}), 8)


class Refused(Checks):
    BASE = "phone a 1 0\nphone b 2 9\ngroup g all a b\nnight a g 22 6\noff silent g b 3\nbar a b g"

    def test_the_base_is_a_text(self):
        self.assertEqual(show_plan(read_plan(self.BASE)), self.BASE)

    def test_empty(self):
        for text in ("", "\n", "\n\n", " ", "  ", " \n "):
            self.refused(text)

    def test_a_refusal_is_a_call_error(self):
        with self.assertRaises(CallError):
            read_plan("")

    def test_an_empty_row_anywhere(self):
        rows = self.BASE.split("\n")
        for place in range(len(rows) + 1):
            self.refused("\n".join(rows[:place] + [""] + rows[place:]))

    def test_line_feeds_at_the_ends(self):
        for text in (self.BASE, "phone a 1 0"):
            self.refused(text + "\n")
            self.refused("\n" + text)
            self.refused(text + "\n\n")

    def test_one_blank_more_anywhere(self):
        for place in range(len(self.BASE) + 1):
            self.refused(self.BASE[:place] + " " + self.BASE[place:])

    def test_one_sign_less_or_another_blank(self):
        for place, sign in enumerate(self.BASE):
            if sign == " ":
                self.refused(self.BASE[:place] + self.BASE[place + 1:])
                self.refused(self.BASE[:place] + "\n" + self.BASE[place + 1:])
            if sign == "\n":
                self.refused(self.BASE[:place] + self.BASE[place + 1:])
                self.refused(self.BASE[:place] + " " + self.BASE[place + 1:])

    def test_numbers(self):
        forms = ("phone a {} 0", "phone a 1 {}", "phone a 1 0\nphone b 1 0\nnight a b {} 6",
                 "phone a 1 0\nphone b 1 0\nnight a b 6 {}", "phone a 1 0\nphone b 1 0\nsilent a b {}")
        bad = ("01", "00", "000", "001", "+1", "-1", "-0", "+0", "1.0", "1.", "1e0", "1_0", "0x1", "x", "a", "one", "",
               "24", "99", "100", "10" * 30, "1" * 60, "0" * 59 + "1", "1" * 5000, "0" * 5000 + "1", "1,", "(1)")
        for form in forms:
            for number in bad:
                self.refused(form.format(number))

    def test_numbers_out_of_bounds(self):
        for row in ("phone a 0 0", "phone a 4 0", "phone a 1 10"):
            self.refused(row)
        two = "phone a 1 0\nphone b 1 0\n"
        for row in ("silent a b 0", "silent a b 10", "night a b 24 0", "night a b 0 24", "night a b 7 7"):
            self.refused(two + row)

    def test_figures_of_other_scripts(self):
        for number in ("\u0661", "\u00b2", "\uff11"):
            self.refused(f"phone a {number} 0")
            self.refused(f"phone a 1 {number}")

    def test_a_word_too_few_or_too_many(self):
        ahead = "phone a 1 0\nphone b 1 0\n"
        for row in ("wait", "wait a b", "wait a 1", "breaks", "breaks a b", "always", "always a", "always a b a",
                    "busy a", "busy a b 1", "silent a b", "silent a 3", "silent a b 3 3", "night a b 1",
                    "night a b", "night a 1 2", "night a b 1 2 3", "bar", "bar a", "shut", "shut a", "off",
                    "off wait", "off wait a b", "off bar a", "phone", "phone c", "phone c 1", "phone c 1 0 0",
                    "group", "group g", "group g all", "group g a", "group g turns"):
            self.refused(ahead + row)
        for row in ("phone", "phone a", "phone a 1", "phone a 1 0 0", "phone a 1 0 a"):
            self.refused(row)

    def test_every_row_without_its_last_word(self):
        rows = TEXT.split("\n")
        for place, row in enumerate(rows):
            if not re.match("(off )?(bar|shut)|group", row):
                self.refused("\n".join(rows[:place] + [row.rpartition(" ")[0]] + rows[place + 1:]))

    def test_rows_in_another_order(self):
        for text in ("group g all a\nphone a 1 0", "wait a\nphone a 1 0", "phone a 1 0\nwait a\nphone b 1 0",
                     "phone a 1 0\ngroup g all a\nphone b 1 0", "phone a 1 0\nwait a\ngroup g all a",
                     "wait a\nphone a 1 0\ngroup g all a", "phone a 1 0\noff wait a\ngroup g all a",
                     "group g all a\nphone a 1 0\nwait a"):
            self.refused(text)

    def test_a_word_that_is_none(self):
        for row in ("never a", "phones b 1 0", "Phone b 1 0", "PHONE b 1 0", "groups g all a", "on wait a", "waits a",
                    "break a", "a", "a b", "1", "hour 3", "turn", "Off wait a", "offwait a", "off never a", "#"):
            self.refused("phone a 1 0\n" + row)
            self.refused(row + "\nphone a 1 0")

    def test_off_where_it_is_not(self):
        self.refused("off phone a 1 0")
        self.refused("phone a 1 0\noff phone b 1 0")
        self.refused("phone a 1 0\noff group g all a")
        self.refused("phone a 1 0\noff off wait a")
        self.refused("phone a 1 0\noff")
        self.refused("phone a 1 0\noff ")
        self.refused("phone a 1 0\nwait off a")
        self.refused("phone off 1 0\noff off")

    def test_what_a_plan_refuses(self):
        ahead = "phone a 1 0\nphone b 1 0\ngroup g all a\n"
        for row in ("group a all b", "group g all b", "group h each a", "group h all x", "group h all g",
                    "group h all a a", "wait x", "wait g", "breaks x", "breaks g", "always a a", "always g g",
                    "always a x", "always x a", "busy a a", "night a a 1 2", "night a b 3 3", "silent a a 1",
                    "bar x a", "bar g a", "bar a x", "bar a b b", "shut x a", "shut a g", "shut a b b", "shut a x"):
            self.refused(ahead + row)
            if not row.startswith("group"):
                self.refused(ahead + "off " + row)
        for text in ("phone A 1 0", "phone abcdefg 1 0", "phone a1 1 0", "phone a 1 0\nphone a 1 0", "wait a",
                     "group g all a"):
            self.refused(text)

    def test_too_many(self):
        phones = [f"phone {sign} 1 0" for sign in "abcdefghi"]
        self.refused("\n".join(phones))
        groups = [f"group {sign} all a" for sign in "wxyz"]
        self.refused("\n".join(phones[:8] + groups))
        self.refused("\n".join(phones[:8] + ["group g all a b c d e"]))
        self.refused("\n".join(phones[:8] + ["wait a"] * 17))
        self.refused("\n".join(phones[:8] + ["bar a a b c d e f g"]))
        self.refused("\n".join(phones[:8] + ["shut a a b c d e f g"]))

    def test_other_signs(self):
        for sign in "\t\r\f\v\x1c\x85\u2028\u00a0":
            self.refused("phone a 1 0" + sign)
            self.refused("phone" + sign + "a 1 0")
            self.refused("phone a 1 0" + sign + "phone b 1 0")


NAME = "[a-z]{1,6}"
HOUR = "(?:[0-9]|1[0-9]|2[0-3])"
WISH_ROW = (f"(?:off )?(?:bar {NAME}(?: {NAME}){{1,6}}|shut {NAME}(?: {NAME}){{1,6}}|(?:always|busy) {NAME} {NAME}"
            f"|night {NAME} {NAME} {HOUR} {HOUR}|silent {NAME} {NAME} [1-9]|(?:wait|breaks) {NAME})")
PHONE_ROW = f"phone {NAME} [1-3] [0-9]"
GROUP_ROW = f"group {NAME} (?:all|turns)(?: {NAME}){{1,4}}"
WHOLE = re.compile(f"{PHONE_ROW}(?:\n{PHONE_ROW}){{0,7}}(?:\n{GROUP_ROW}){{0,3}}(?:\n{WISH_ROW}){{0,16}}")


def is_made_of_good_parts(text):
    """Whether a text of the right outer form tells names, each of which is there and of the kind asked for."""
    words = [row.split(" ") for row in text.split("\n")]
    phones = [row[1] for row in words if row[0] == "phone"]
    names = phones + [row[1] for row in words if row[0] == "group"]
    if len(set(names)) < len(names):
        return False
    for row in words:
        row = row[1:] if row[0] == "off" else row
        if row[0] == "group":
            if not set(row[3:]) <= set(phones) or len(set(row[3:])) < len(row[3:]):
                return False
        elif row[0] in ("bar", "shut"):
            firsts, rest = (phones, names) if row[0] == "bar" else (names, phones)
            if row[1] not in firsts or not set(row[2:]) <= set(rest) or len(set(row[2:])) < len(row[2:]):
                return False
        elif row[0] in ("wait", "breaks"):
            if row[1] not in phones:
                return False
        elif row[0] in EIGHT:
            if row[1] not in names or row[2] not in names or row[1] == row[2]:
                return False
            if row[0] == "night" and row[3] == row[4]:
                return False
    return True


def is_text(text):
    return WHOLE.fullmatch(text) is not None and is_made_of_good_parts(text)


def random_plan(chance):
    pool = chance.sample(["a", "b", "c", "x", "mia"] + list(WORDS), chance.randint(2, 7))
    many = chance.randint(1, len(pool) - 1)
    phones = [(name, chance.randint(1, 3), chance.randint(0, 9)) for name in pool[:many]]
    groups = []
    for name in pool[many:many + 3]:
        members = chance.sample(pool[:many], chance.randint(1, min(4, many)))
        groups.append((name, chance.choice(("all", "turns")), tuple(members)))
    names = pool[:many + len(groups)]
    wishes = [(chance.random() < 0.6, random_wish(chance, pool[:many], names)) for place in range(chance.randint(0, 9))]
    return phones, groups, wishes


def random_wish(chance, phones, names):
    word = chance.choice(EIGHT)
    if word in ("wait", "breaks"):
        return (word, chance.choice(phones))
    if word == "bar":
        return (word, chance.choice(phones), tuple(chance.sample(names, chance.randint(1, min(6, len(names))))))
    if word == "shut":
        return (word, chance.choice(names), tuple(chance.sample(phones, chance.randint(1, min(6, len(phones))))))
    forward = (word,) + tuple(chance.sample(names, 2))
    if word == "night":
        return forward + tuple(chance.sample(range(24), 2))
    if word == "silent":
        return forward + (chance.randint(1, 9),)
    return forward


def spoilt(chance, text):
    rows = text.split("\n")
    way = chance.randrange(6)
    place = chance.randrange(len(text))
    if way == 0:
        return text[:place] + text[place + 1:]
    if way == 1:
        return text[:place] + chance.choice(" \n0123456789abcxo") + text[place:]
    if way == 2:
        return text[:place] + chance.choice(" \n0123456789abcxo") + text[place + 1:]
    if way == 3:
        chance.shuffle(rows)
        return "\n".join(rows)
    row = chance.randrange(len(rows))
    words = rows[row].split(" ")
    if way == 4:
        words.insert(chance.randrange(len(words) + 1), chance.choice(WORDS + ("a", "b", "0", "3", "")))
    else:
        words.pop(chance.randrange(len(words)))
    return "\n".join(rows[:row] + [" ".join(words)] + rows[row + 1:])


class ByChance(Checks):
    """Many plans of one seed: what one reads is what another one shows, and no other text is read."""

    def test_plans(self):
        chance = random.Random(6)
        for tried in range(300):
            parts = random_plan(chance)
            text = show_plan(Plan(*parts))
            self.assertTrue(is_text(text), text)
            self.same(text, *parts)

    def test_spoilt_texts(self):
        chance = random.Random(66)
        read = 0
        for tried in range(4000):
            text = spoilt(chance, show_plan(Plan(*random_plan(chance))))
            if is_text(text):
                read += 1
                self.assertEqual(show_plan(read_plan(text)), text)
            else:
                self.refused(text)
        self.assertGreater(read, 100)


if __name__ == "__main__":
    unittest.main()
