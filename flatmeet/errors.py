"""The refusals: one class each, all of them straight beneath FlatError."""


class FlatError(ValueError):
    pass


class NotAlike(FlatError):
    pass


class BadCount(FlatError):
    pass


class BadRow(FlatError):
    pass


class BadRows(FlatError):

    def __init__(self, place):
        self.place = place


class OtherSpace(FlatError):
    pass


class BadSize(FlatError):
    pass


class BadPlaces(FlatError):
    pass


class ZeroSum(FlatError):
    pass


class NoBox(FlatError):

    def __init__(self, left, right):
        self.left = left
        self.right = right


class BadTable(FlatError):
    pass


class NoLine(FlatError):
    pass


class BadName(FlatError):
    pass


class NoRow(FlatError):
    pass


class NoName(FlatError):
    pass
