"""The refusals, one class for each."""


class FlipError(ValueError):
    pass


class NoPile(FlipError):
    pass


class NoTurn(FlipError):
    pass


class TooTall(FlipError):
    pass


class NoBack(FlipError):
    pass


class BadLine(FlipError):
    pass
