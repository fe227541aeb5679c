"""Plans: the phones, the groups and the wishes of a board."""

from callboard.errors import NoPlan
from callboard.wishes import wish_of

LETTERS = "abcdefghijklmnopqrstuvwxyz"
MANNERS = ("all", "turns")

MOST_SIGNS = 6
MOST_PHONES = 8
MOST_LINES = 3
MOST_RANK = 9
MOST_GROUPS = 3
MOST_MEMBERS = 4
MOST_WISHES = 16
MOST_LISTED = 6
LAST_HOUR = 23
MOST_TURNS = 9

# In one table, so that a form is told once, whatever asks for it.
FORMS = {
    "bar": ("phone", "names"),
    "shut": ("name", "phones"),
    "always": ("name", "name"),
    "night": ("name", "name", "hour", "hour"),
    "busy": ("name", "name"),
    "silent": ("name", "name", "turns"),
    "wait": ("phone",),
    "breaks": ("phone",),
}


def need(holds, words):
    if not holds:
        raise NoPlan(words)


def is_name(text):
    return 1 <= len(text) <= MOST_SIGNS and all([sign in LETTERS for sign in text])


def all_unlike(things):
    return len(set(things)) == len(things)


def is_choice(chosen, known, most):
    """Whether these are one to most of the known names, none of them twice."""
    return 1 <= len(chosen) <= most and all_unlike(chosen) and all([name in known for name in chosen])


def check_phones(phones):
    need(1 <= len(phones) <= MOST_PHONES, "there are 1 to 8 phones")
    for name, lines, rank in phones:
        need(is_name(name), "a phone's name is 1 to 6 signs from a to z")
        need(1 <= lines <= MOST_LINES, "a phone has 1 to 3 lines")
        need(0 <= rank <= MOST_RANK, "a phone's rank is from 0 to 9")


def check_groups(groups, phone_names):
    need(len(groups) <= MOST_GROUPS, "there are 0 to 3 groups")
    for name, manner, members in groups:
        need(is_name(name), "a group's name is 1 to 6 signs from a to z")
        need(manner in MANNERS, "a group's manner is all or turns")
        need(is_choice(members, phone_names, MOST_MEMBERS), "a group's members are 1 to 4 phones, no two alike")


def part_holds(kind, part, phone_names, names):
    if kind == "phone":
        return part in phone_names
    if kind == "name":
        return part in names
    if kind == "phones":
        return is_choice(part, phone_names, MOST_LISTED)
    if kind == "names":
        return is_choice(part, names, MOST_LISTED)
    if kind == "hour":
        return 0 <= part <= LAST_HOUR
    return 1 <= part <= MOST_TURNS


def check_wish(wish, phone_names, names):
    need(wish[0] in FORMS, "a wish begins with one of the eight words")
    form = FORMS[wish[0]]
    parts = wish[1:]
    need(len(parts) == len(form), "a wish tells as much as its form asks")
    for kind, part in zip(form, parts):
        need(part_holds(kind, part, phone_names, names), "a part of a wish is not as its form asks")
    if form[:2] == ("name", "name"):
        need(parts[0] != parts[1], "calls go on to another name")
    if form[2:] == ("hour", "hour"):
        need(parts[2] != parts[3], "the first and the last hour are unlike")


def check_wishes(wishes, phone_names, names):
    need(len(wishes) <= MOST_WISHES, "there are 0 to 16 wishes")
    for on, wish in wishes:
        check_wish(wish, phone_names, names)


def check_plan(phones, groups, wishes):
    check_phones(phones)
    phone_names = [phone[0] for phone in phones]
    check_groups(groups, phone_names)
    names = phone_names + [group[0] for group in groups]
    need(all_unlike(names), "no two names are alike")
    check_wishes(wishes, phone_names, names)


class Plan:
    """Phones, groups and wishes, each wish on or off."""

    def __init__(self, phones, groups, wishes):
        check_plan(phones, groups, wishes)
        self.phones = list(phones)
        self.groups = list(groups)
        self.wishes = [wish_of(wish) for on, wish in wishes]
        self.on = [on for on, wish in wishes]
        self.phone_rows = dict([(phone[0], phone) for phone in phones])
        self.group_rows = dict([(group[0], group) for group in groups])

    def names(self):
        return self.phone_names() + [group[0] for group in self.groups]

    def phone_names(self):
        return [phone[0] for phone in self.phones]

    def lines(self, phone):
        return self.phone_rows[phone][1]

    def rank(self, phone):
        return self.phone_rows[phone][2]

    def phones_of(self, name):
        if name in self.group_rows:
            return list(self.group_rows[name][2])
        return [name]

    def manner(self, name):
        if name in self.group_rows:
            return self.group_rows[name][1]
        return "one"
