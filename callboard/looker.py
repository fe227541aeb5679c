"""Looking: the deeds that can be done, where wishes clash, and the least row of deeds by which they do."""

from callboard.board import Board
from callboard.deeds import do, refusal
from callboard.replay import replayed

WORDS_WITH_ONE_CALL = ("answer", "back", "hang", "hold")
WORDS_WITH_TWO_CALLS = ("hand", "join")

# No event of another deed asks the wishes.
WORDS_THAT_ASK = ("call", "turn")


def open_calls(board):
    """The numbers of the calls that are not over; any deed with another one is refused."""
    return [number for number, call in enumerate(board.calls) if call.state != "over"]


def deeds_with_calls(phone, numbers):
    deeds = []
    for number in numbers:
        deeds.extend([(word, phone, number) for word in WORDS_WITH_ONE_CALL])
        for other in numbers:
            deeds.extend([(word, phone, number, other) for word in WORDS_WITH_TWO_CALLS])
    return deeds


def choices(board):
    numbers = open_calls(board)
    deeds = [("turn",)]
    for phone in board.plan.phone_names():
        deeds.extend([("call", phone, name) for name in board.plan.names()])
        deeds.extend(deeds_with_calls(phone, numbers))
    return sorted([deed for deed in deeds if refusal(board, deed) is None])


def clashes_among(plan, target, fits):
    found = []
    for place, i in enumerate(fits):
        for j in fits[place + 1:]:
            if plan.wishes[i].wants() != plan.wishes[j].wants():
                found.append((target, i, j))
    return found


def clashes(plan, events):
    found = []
    for event in events:
        if event[0] == "asks":
            found.extend(clashes_among(plan, event[2], event[3]))
    return found


def made_again(board):
    """A board alike, on which deeds can be tried."""
    return replayed(board.plan, board.hour, board.log)


def clash_by_one(board):
    """By the least deed that brings a clash about: ("clash", [deed], triple); or ("none",)."""
    for deed in choices(board):
        if deed[0] in WORDS_THAT_ASK:
            found = clashes(board.plan, do(made_again(board), deed))
            if len(found) > 0:
                return ("clash", [deed], found[0])
    return ("none",)


def clash_by_row(board, count):
    """By the least row of just so many deeds, of which the last one alone is looked at."""
    if count == 1:
        return clash_by_one(board)
    for deed in choices(board):
        later = made_again(board)
        do(later, deed)
        told = clash_by_row(later, count - 1)
        if told[0] == "clash":
            return ("clash", [deed] + told[1], told[2])
    return ("none",)


def wants_unlike_things(plan):
    return len(set([wish.wants() for on, wish in zip(plan.on, plan.wishes) if on])) > 1


def looked(plan, hour, most):
    # The rows of deeds are very many, and walked in vain where no two wishes could clash at all.
    if not wants_unlike_things(plan):
        return ("none",)
    for count in range(1, most + 1):
        told = clash_by_row(Board(plan, hour), count)
        if told[0] == "clash":
            return told
    return ("none",)
