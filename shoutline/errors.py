"""The refusals: one class each, all of them straight under LineError."""


class LineError(ValueError):
    pass


class NoSpan(LineError):
    pass


class NoHands(LineError):
    pass


class NoHand(LineError):
    pass


class NoTurn(LineError):
    pass


class NoHall(LineError):
    pass


class NoText(LineError):
    pass


class NoOrder(LineError):
    pass


class NoLine(LineError):
    pass
