"""Texts of plans: each plan has one, and each such text has one plan."""

from callboard.plans import FORMS, Plan, need

PHONE_FORM = ("name", "lines", "rank")
GROUP_FORM = ("name", "manner", "phones")
NUMBER_KINDS = ("lines", "rank", "hour", "turns")
LIST_KINDS = ("names", "phones")

FIGURES = "0123456789"

# No number of a plan has more, and Python itself balks at very many.
MOST_FIGURES = 2


def row_of(parts):
    words = []
    for part in parts:
        if isinstance(part, tuple):
            words.extend(part)
        else:
            words.append(str(part))
    return " ".join(words)


def wish_row(on, told):
    if on:
        return row_of(told)
    return row_of(("off",) + told)


def show_plan(plan):
    rows = [row_of(("phone",) + phone) for phone in plan.phones]
    rows.extend([row_of(("group",) + group) for group in plan.groups])
    rows.extend([wish_row(on, wish.told()) for on, wish in zip(plan.on, plan.wishes)])
    return "\n".join(rows)


def number_of(word):
    need(1 <= len(word) <= MOST_FIGURES, "a number has one or two figures")
    need(all([sign in FIGURES for sign in word]), "a number is told by plain figures")
    return int(word)


def part_of(kind, word):
    if kind in NUMBER_KINDS:
        return number_of(word)
    return word


def parts_of(form, words):
    """What the words tell by the form: a part for each word, but one for all the words that a list takes."""
    has_list = form[-1] in LIST_KINDS
    single = len(form) - 1 if has_list else len(form)
    need(len(words) >= single, "a row has too few words")
    need(has_list or len(words) == single, "a row has too many words")
    parts = [part_of(kind, word) for kind, word in zip(form[:single], words)]
    if has_list:
        parts.append(tuple(words[single:]))
    return tuple(parts)


def told_wish(words):
    need(len(words) > 0 and words[0] in FORMS, "a row begins with none of the words")
    return (words[0],) + parts_of(FORMS[words[0]], words[1:])


def read_wish(words):
    """The pair of on and the wish that a row's words tell."""
    if words[0] == "off":
        return (False, told_wish(words[1:]))
    return (True, told_wish(words))


def read_plan(text):
    rows = [row.split(" ") for row in text.split("\n")]
    phones = [parts_of(PHONE_FORM, row[1:]) for row in rows if row[0] == "phone"]
    groups = [parts_of(GROUP_FORM, row[1:]) for row in rows if row[0] == "group"]
    wishes = [read_wish(row) for row in rows if row[0] not in ("phone", "group")]
    plan = Plan(phones, groups, wishes)
    # Nothing above looks at the order of the rows, nor at noughts ahead of a number.
    need(show_plan(plan) == text, "the text is not the plan's own")
    return plan
