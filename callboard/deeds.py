"""Deeds: what is done with calls, why it is refused, and how a call goes on."""

from callboard.errors import NoDeed
from callboard.routes import route


def word_for_idling(board, phone):
    """Why the phone does not idle, or None where it does."""
    if board.bound(phone) is not None:
        return "bound"
    if board.calling(phone) is not None:
        return "calls"
    return None


def word_for_call(board, phone, target):
    if target not in board.plan.names():
        return "name"
    word = word_for_idling(board, phone)
    if word is None and not board.is_free(phone):
        return "full"
    return word


def suits(word, phone, calls):
    """Whether the calls are as the deed of that word asks for them."""
    if word == "answer":
        return phone in calls[0].at
    if word == "hang":
        return calls[0].can_be_left_by(phone)
    if word == "hold":
        return calls[0].pairs(phone)
    if word == "back":
        return calls[0].holder == phone
    return calls[0].holder == phone and calls[1].pairs(phone)


def word_for_numbers(board, word, phone, numbers):
    """The refusal of a deed with calls that are there, by their numbers."""
    if not all([0 <= number < len(board.calls) for number in numbers]):
        return "call"
    calls = [board.calls[number] for number in numbers]
    if not suits(word, phone, calls):
        return "call"
    if word not in ("answer", "back"):
        return None
    due = word_for_idling(board, phone)
    # A call that rings or is held has its line at the phone already; one that waits does not.
    if due is None and calls[0].waits_with(phone) and not board.is_free(phone):
        return "full"
    return due


def word_for_switch(board, word, number):
    if not 0 <= number < len(board.on):
        return "wish"
    if board.on[number] == (word == "on"):
        return "wish"
    return None


def refusal(board, deed):
    word = deed[0]
    if word == "turn":
        return None
    if word in ("on", "off"):
        return word_for_switch(board, word, deed[1])
    if deed[1] not in board.plan.phone_names():
        return "name"
    if word == "call":
        return word_for_call(board, deed[1], deed[2])
    return word_for_numbers(board, word, deed[1], deed[2:])


def take_steps(board, number, steps):
    """Tells what was asked at each target, and the legs between them."""
    last = None
    for target, fits in steps:
        if last is not None:
            board.apply(("leg", number, last, target, last))
        board.apply(("asks", number, target, fits))
        last = target


def start_ringing(board, number, target, phones):
    if board.plan.manner(target) == "turns":
        members = board.plan.phones_of(target)
        place = (members.index(phones[0]) + 1) % len(members)
        board.apply(("next", target, place))
    board.apply(("rings", number, phones))


def break_in(board, number, target):
    talk = board.talk_of(target)
    members = tuple(board.calls[talk].members) + (board.calls[number].caller,)
    board.apply(("merge", number, talk, members))


def come_to_end(board, number, end):
    word = end[0]
    if word == "rings":
        start_ringing(board, number, end[1], end[2])
    elif word == "waits":
        board.apply(("waits", number, end[1]))
    elif word == "breaks":
        break_in(board, number, end[1])
    else:
        board.apply(("over", number, word))


def go_on(board, number):
    """The call goes on by the route from its way's last name."""
    call = board.calls[number]
    told = route(board, call.caller, call.way[-1], call.way[:-1])
    end = told[0]
    steps = told[1]
    take_steps(board, number, steps)
    if end[0] == "ring" and len(steps) > 0:
        last = steps[-1][0]
        board.apply(("leg", number, last, end[1][0], last))
    come_to_end(board, number, end)


def make_call(board, phone, target):
    number = len(board.calls)
    board.apply(("new", number, phone))
    board.apply(("leg", number, phone, target, phone))
    go_on(board, number)


def hang_up(board, phone, number):
    call = board.calls[number]
    if call.is_tried_by(phone):
        board.apply(("over", number, "left"))
    elif phone in call.at:
        board.apply(("leaves", number, phone))
        if len(call.at) == 0:
            board.apply(("over", number, "refused"))
    elif len(call.members) > 2:
        board.apply(("leaves", number, phone))
    else:
        board.apply(("over", number, "done"))


def due_wishes(board, call):
    """The numbers of all wishes that are on and due at a call that rings, rising."""
    wishes = board.plan.wishes
    return tuple([i for i, on in enumerate(board.on) if on and wishes[i].is_due(call)])


def send_on(board, number, fits):
    wish = board.plan.wishes[fits[0]].told()
    board.apply(("asks", number, wish[1], fits))
    board.apply(("quiet", number))
    board.apply(("leg", number, wish[1], wish[2], wish[1]))
    go_on(board, number)


def let_turn_pass(board):
    board.apply(("turn",))
    for number, call in enumerate(list(board.calls)):
        if call.state == "rings":
            fits = due_wishes(board, call)
            if len(fits) > 0:
                send_on(board, number, fits)


def event_of(board, deed):
    """The event of a deed that has just one, whatever the call."""
    word = deed[0]
    if word in ("on", "off"):
        return (word, deed[1])
    phone = deed[1]
    number = deed[2]
    call = board.calls[number]
    if word == "answer":
        return ("talks", number, (call.caller, phone))
    if word == "hold":
        return ("held", number, phone)
    if word == "back":
        return ("talks", number, tuple(call.members))
    kept = deed[3]
    others = (call.other_than(phone), board.calls[kept].other_than(phone))
    if word == "hand":
        return ("merge", number, kept, others)
    return ("merge", number, kept, (phone,) + others)


def act(board, deed):
    word = deed[0]
    if word == "call":
        make_call(board, deed[1], deed[2])
    elif word == "hang":
        hang_up(board, deed[1], deed[2])
    elif word == "turn":
        let_turn_pass(board)
    else:
        board.apply(event_of(board, deed))


def do(board, deed):
    word = refusal(board, deed)
    if word is not None:
        raise NoDeed(word)
    begun = len(board.log)
    act(board, deed)
    return board.log[begun:]
