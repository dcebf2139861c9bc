"""The refusals: GateError, and straight under it one class for each."""


class GateError(ValueError):
    pass


class NoRelation(GateError):
    pass


class TooMany(GateError):
    pass


class TooBig(GateError):
    pass


class NotAll(GateError):
    def __init__(self, kind):
        self.kind = kind


class NotMade(GateError):
    pass


class NoText(GateError):
    pass


class NoName(GateError):
    def __init__(self, name):
        self.name = name


class NoRow(GateError):
    pass
