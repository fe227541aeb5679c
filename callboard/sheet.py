"""Sheets: texts of a plan, an hour and orders."""

from callboard.errors import NoPlan, NoSheet
from callboard.plans import LAST_HOUR, is_name
from callboard.texts import FIGURES, read_plan

MOST_FIGURES = 3
MOST_LOOKED = 2

# In one table, so that an order's form is told once.
ORDERS = {
    "call": ("name", "name"),
    "answer": ("name", "number"),
    "hang": ("name", "number"),
    "hold": ("name", "number"),
    "back": ("name", "number"),
    "hand": ("name", "number", "number"),
    "join": ("name", "number", "number"),
    "turn": (),
    "on": ("number",),
    "off": ("number",),
    "show": (),
    "owed": (),
    "rings": (),
    "look": ("most",),
}


def is_number(word):
    if not 1 <= len(word) <= MOST_FIGURES or not all([sign in FIGURES for sign in word]):
        return False
    return len(word) == 1 or word[0] != "0"


def is_number_up_to(word, last):
    return is_number(word) and int(word) <= last


def word_holds(kind, word):
    if kind == "name":
        return is_name(word)
    if kind == "most":
        return is_number_up_to(word, MOST_LOOKED)
    return is_number(word)


def is_order(words):
    if words[0] not in ORDERS:
        return False
    kinds = ORDERS[words[0]]
    if len(words) - 1 != len(kinds):
        return False
    return all([word_holds(kind, word) for kind, word in zip(kinds, words[1:])])


def order_of(words):
    kinds = ORDERS[words[0]]
    parts = [word if kind == "name" else int(word) for kind, word in zip(kinds, words[1:])]
    return (words[0],) + tuple(parts)


def hour_of(words, line):
    if len(words) != 2 or not is_number_up_to(words[1], LAST_HOUR):
        raise NoSheet(line)
    return int(words[1])


def plan_of(rows, line):
    """The plan that the rows ahead of the hour's tell; a fault of theirs is told at that row's line."""
    try:
        return read_plan("\n".join(rows))
    except NoPlan:
        raise NoSheet(line) from None


def orders_of(rows, line):
    """The orders of the rows from that line on."""
    orders = []
    for place, row in enumerate(rows, start=line):
        words = row.split(" ")
        if not is_order(words):
            raise NoSheet(place)
        orders.append(order_of(words))
    return orders


def read_sheet(text):
    rows = text.split("\n")
    first_words = [row.split(" ")[0] for row in rows]
    if "hour" not in first_words:
        raise NoSheet(len(rows) + 1)
    ahead = first_words.index("hour")
    line = ahead + 1
    hour = hour_of(rows[ahead].split(" "), line)
    plan = plan_of(rows[:ahead], line)
    return (plan, hour, orders_of(rows[line:], line + 1))
