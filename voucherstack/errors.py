"""The refusals of the program."""


class TillError(ValueError):
    pass


class NotLet(TillError):
    def __init__(self, place, word):
        self.place = place
        self.word = word


class NoPieces(TillError):
    pass


class LineError(TillError):
    def __init__(self, line):
        self.line = line


class BadText(LineError):
    pass


class NoName(LineError):
    pass


class Twice(LineError):
    pass


class TooMany(LineError):
    pass
