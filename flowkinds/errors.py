"""The refusals: one base, and straight under it one class for each of them."""


class FlowError(ValueError):
    pass


class BadText(FlowError):
    pass


class Twice(FlowError):
    def __init__(self, word):
        self.word = word


class NoName(FlowError):
    def __init__(self, word, place):
        self.word = word
        self.place = place


class TooHeavy(FlowError):
    def __init__(self, word):
        self.word = word


class BadPaper(FlowError):
    pass


class WrongKind(FlowError):
    def __init__(self, made, used, slot):
        self.made = made
        self.used = used
        self.slot = slot


class OutOfTurns(FlowError):
    pass


class RowFull(FlowError):
    pass
