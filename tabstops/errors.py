"""The refusals of the program, each under a name of its own."""


class StopsError(ValueError):
    pass


class BadStops(StopsError):
    pass


class NotSpread(StopsError):
    pass


class TooWide(StopsError):
    pass


class NoGap(StopsError):
    pass
