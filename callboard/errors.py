"""The refusals: each is a CallError, and none stands under another one."""


class CallError(ValueError):
    """Any refusal."""


class NoPlan(CallError):
    """What was handed in makes no plan."""


class NoDeed(CallError):
    """A deed is not done; the word says why."""

    def __init__(self, word):
        self.word = word


class NoSheet(CallError):
    """A text is no sheet; the line is the bad row's place, counted from 1."""

    def __init__(self, line):
        self.line = line
