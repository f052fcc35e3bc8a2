"""The refusals: each a class of its own under one base."""


class KeelError(ValueError):
    pass


class NoNumber(KeelError):
    pass


class NoWeight(KeelError):
    pass


class NoBounds(KeelError):
    pass


class NoSize(KeelError):
    pass


class NoName(KeelError):
    pass


class NoStack(KeelError):
    pass


class NoDeed(KeelError):
    pass


class NoLine(KeelError):
    def __init__(self, line):
        self.line = line
