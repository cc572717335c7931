"""The refusals of the program: one class for each, all taken by EightError."""


class EightError(ValueError):
    pass


class NoLink(EightError):
    pass


class NoBlock(EightError):
    def __init__(self, at):
        self.at = at


class NotStraight(EightError):
    def __init__(self, at):
        self.at = at


class NoRow(EightError):
    def __init__(self, at):
        self.at = at


class NoName(EightError):
    def __init__(self, at):
        self.at = at
