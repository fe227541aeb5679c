"""Wishes: what shall happen to a call of a phone that comes to a name."""

from callboard.errors import NoPlan


def is_busy(board, caller, target):
    return len(board.ringable(caller, target)) == 0


class Wish:
    """What all wishes share; one of no form wants nothing and fits nowhere."""

    def __init__(self, told):
        self.form = told

    def told(self):
        return self.form

    def wants(self):
        return ()

    def fits(self, board, caller, target):
        return False

    def is_due(self, call):
        """Whether it sends on a call that rings, by the turns for which it has rung."""
        return False


class Bar(Wish):
    """A phone may not come to some names."""

    def __init__(self, told):
        Wish.__init__(self, told)
        self.phone = told[1]
        self.targets = told[2]

    def wants(self):
        return ("end",)

    def fits(self, board, caller, target):
        return caller == self.phone and target in self.targets


class Shut(Wish):
    """A name is not to be come to by some phones."""

    def __init__(self, told):
        Wish.__init__(self, told)
        self.target = told[1]
        self.callers = told[2]

    def wants(self):
        return ("end",)

    def fits(self, board, caller, target):
        return target == self.target and caller in self.callers


class Forward(Wish):
    """What the four wishes share by which calls go on from one name to another."""

    def __init__(self, told):
        Wish.__init__(self, told)
        self.target = told[1]
        self.goal = told[2]

    def wants(self):
        return ("to", self.goal)


class Always(Forward):
    """Calls go on, whenever they come."""

    def fits(self, board, caller, target):
        return target == self.target


class Night(Forward):
    """Calls go on in some hours, which may go round midnight."""

    def __init__(self, told):
        Forward.__init__(self, told)
        self.first = told[3]
        self.last = told[4]

    def has_hour(self, hour):
        if self.first < self.last:
            return self.first <= hour < self.last
        return hour >= self.first or hour < self.last

    def fits(self, board, caller, target):
        return target == self.target and self.has_hour(board.hour_now())


class Busy(Forward):
    """Calls go on where the name is busy for their caller."""

    def fits(self, board, caller, target):
        return target == self.target and is_busy(board, caller, target)


class Silent(Forward):
    """Calls that have rung for some turns go on."""

    def __init__(self, told):
        Forward.__init__(self, told)
        self.turns = told[3]

    def fits(self, board, caller, target):
        # It acts when turns pass, never when a call comes.
        return False

    def is_due(self, call):
        # A call of a log that was cut off behind its first event has no way yet.
        return call.way[-1:] == [self.target] and self.turns <= call.since


class Wait(Wish):
    """One call may wait at a busy phone."""

    def __init__(self, told):
        Wish.__init__(self, told)
        self.phone = told[1]

    def wants(self):
        return ("wait", self.phone)

    def fits(self, board, caller, target):
        if target != self.phone or caller == self.phone:
            return False
        return is_busy(board, caller, target) and not board.waits_at(target)


class Breaks(Wish):
    """A phone may break into a talk of two that are both of less rank."""

    def __init__(self, told):
        Wish.__init__(self, told)
        self.phone = told[1]

    def wants(self):
        return ("break",)

    def outranks(self, plan, members):
        rank = plan.rank(self.phone)
        return all([plan.rank(member) < rank for member in members])

    def fits(self, board, caller, target):
        if caller != self.phone or target == self.phone:
            return False
        if target not in board.plan.phone_names() or not is_busy(board, caller, target):
            return False
        talk = board.talk_of(target)
        if talk is None:
            return False
        members = board.calls[talk].members
        return len(members) == 2 and self.outranks(board.plan, members)


def wish_of(told):
    word = told[0]
    if word == "bar":
        return Bar(told)
    if word == "shut":
        return Shut(told)
    if word == "always":
        return Always(told)
    if word == "night":
        return Night(told)
    if word == "busy":
        return Busy(told)
    if word == "silent":
        return Silent(told)
    if word == "wait":
        return Wait(told)
    if word == "breaks":
        return Breaks(told)
    raise NoPlan("a wish begins with one of the eight words")
