"""The refusals: HallError is any of them, and each other one stands straight under it."""


class HallError(ValueError):
    pass


class BadNumber(HallError):
    pass


class BadText(HallError):
    pass


class BadKey(HallError):
    pass


class BadWord(HallError):
    pass


class BadParts(HallError):
    pass


class BadRow(HallError):
    pass


class BadAsk(HallError):
    pass


class BadSpan(HallError):
    pass


class NoText(HallError):
    pass


class Twice(HallError):
    pass


class NoLine(HallError):
    pass


class NoAsk(HallError):
    def __init__(self, at):
        self.at = at


class BadKept(HallError):
    def __init__(self, row):
        self.row = row
