"""The refusals: one class for each, all of them straight under HallError."""


class HallError(ValueError):
    pass


class NoNumber(HallError):
    pass


class NoPoint(HallError):
    pass


class Flat(HallError):
    pass


class NoBlade(HallError):
    pass


class NoMove(HallError):
    pass


class OnSide(HallError):
    pass


class NotSame(HallError):
    pass


class OtherSize(HallError):
    pass


class Backward(HallError):
    pass


class NoBox(HallError):
    pass


class NoText(HallError):
    pass


class TooGreat(HallError):
    pass


class NoRow(HallError):
    pass


class NoName(HallError):
    pass


class NoUndo(HallError):
    pass


class NoAgain(HallError):
    pass


class OtherKind(HallError):
    pass


class OtherSum(HallError):
    def __init__(self, key):
        self.key = key


class TooWide(HallError):
    def __init__(self, lines, cells):
        self.lines = lines
        self.cells = cells


class TooSteep(HallError):
    def __init__(self, number):
        self.number = number
