"""The refusals of the program, one class for each sort."""


class SeatError(ValueError):
    pass


class NoGuests(SeatError):
    pass


class NoParties(SeatError):
    pass


class NoNumber(SeatError):
    pass


class NoOrder(SeatError):
    pass


class NoWeb(SeatError):
    pass


class NoText(SeatError):
    pass


class NoLine(SeatError):
    pass


class NoDeed(SeatError):
    pass
