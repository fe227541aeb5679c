"""The board: its calls, and the events that change them."""


def place_of_true(answers):
    """The first place at which the answer is True, or None."""
    if True in answers:
        return answers.index(True)
    return None


class Call:
    """One call, from the moment at which it is made; at first it rings nowhere."""

    def __init__(self, caller):
        self.state = "rings"
        self.caller = caller
        self.way = []
        self.at = []
        self.members = []
        self.holder = None
        self.since = 0
        self.word = None

    def has(self, phone):
        """Whether the phone is in the call, so that it takes one of its lines."""
        if self.state == "rings":
            return phone == self.caller or phone in self.at
        if self.state == "waits":
            return phone == self.caller
        return self.state in ("talks", "held") and phone in self.members

    def talks_with(self, phone):
        return self.state == "talks" and phone in self.members

    def binds(self, phone):
        if self.state == "held":
            return phone in self.members and phone != self.holder
        return self.talks_with(phone)

    def is_tried_by(self, phone):
        return self.state in ("rings", "waits") and phone == self.caller

    def waits_with(self, phone):
        return self.state == "waits" and phone in self.at

    def pairs(self, phone):
        """Whether the phone talks here with just one other."""
        return self.talks_with(phone) and len(self.members) == 2

    def can_be_left_by(self, phone):
        # A caller whose call was handed over is a stranger to it from then on.
        return self.is_tried_by(phone) or phone in self.at or phone in self.members

    def other_than(self, phone):
        """The other one of two members."""
        return [member for member in self.members if member != phone][0]


def end_call(call, word):
    call.state = "over"
    call.word = word
    call.at = []
    call.members = []
    call.holder = None


def drop_phone(call, phone):
    call.at = [other for other in call.at if other != phone]
    call.members = [other for other in call.members if other != phone]


def change_call(call, event):
    """Does an event that changes one call and nothing else."""
    word = event[0]
    if word == "rings":
        call.state = "rings"
        call.at = list(event[2])
        call.since = 0
    elif word == "quiet":
        call.at = []
    elif word == "waits":
        call.state = "waits"
        call.at = [event[2]]
    elif word == "talks":
        call.state = "talks"
        call.members = list(event[2])
        call.at = []
        call.holder = None
    elif word == "held":
        call.state = "held"
        call.holder = event[2]
    elif word == "leaves":
        drop_phone(call, event[2])
    elif word == "over":
        end_call(call, event[2])


class Board:
    """The calls of a plan, from an hour on; events alone change it."""

    def __init__(self, plan, hour):
        self.plan = plan
        self.hour = hour
        self.turn = 0
        self.calls = []
        self.legs = []
        self.nexts = dict([(group[0], 0) for group in plan.groups if group[1] == "turns"])
        self.on = list(plan.on)
        self.log = []

    def used(self, phone):
        return len([call for call in self.calls if call.has(phone)])

    def is_free(self, phone):
        return self.used(phone) < self.plan.lines(phone)

    def talk_of(self, phone):
        return place_of_true([call.talks_with(phone) for call in self.calls])

    def bound(self, phone):
        return place_of_true([call.binds(phone) for call in self.calls])

    def calling(self, phone):
        return place_of_true([call.is_tried_by(phone) for call in self.calls])

    def waits_at(self, phone):
        return any([call.waits_with(phone) for call in self.calls])

    def ringable(self, caller, target):
        return [phone for phone in self.plan.phones_of(target) if phone != caller and self.is_free(phone)]

    def hour_now(self):
        return (self.hour + self.turn) % 24

    def pass_turn(self):
        self.turn += 1
        for call in self.calls:
            if call.state == "rings":
                call.since += 1

    def add_leg(self, leg):
        self.legs.append(leg)
        self.calls[leg[0]].way.append(leg[2])

    def merge(self, merged, kept, members):
        end_call(self.calls[merged], "merged")
        self.legs = [(kept,) + leg[1:] if leg[0] == merged else leg for leg in self.legs]
        call = self.calls[kept]
        call.members = list(members)

    def apply(self, event):
        self.log.append(event)
        word = event[0]
        if word == "new":
            self.calls.append(Call(event[2]))
        elif word == "leg":
            self.add_leg(event[1:])
        elif word == "next":
            self.nexts[event[1]] = event[2]
        elif word == "merge":
            self.merge(event[1], event[2], event[3])
        elif word == "turn":
            self.pass_turn()
        elif word in ("on", "off"):
            self.on[event[1]] = word == "on"
        elif word != "asks":
            change_call(self.calls[event[1]], event)


def call_picture(call):
    lists = (tuple(call.way), tuple(call.at), tuple(call.members))
    return (call.state, call.caller) + lists + (call.holder, call.since, call.word)


def picture(board):
    calls = tuple([call_picture(call) for call in board.calls])
    return (board.turn, calls, tuple(sorted(board.nexts.items())), tuple(board.on))
