"""The refusals, one class for each reason."""


class TurnError(ValueError):
    pass


class NoText(TurnError):
    pass


class NoPlace(TurnError):
    pass


class NoTurning(TurnError):
    pass


class Clash(TurnError):
    pass


class NoWay(TurnError):
    pass


class NoUse(TurnError):
    pass


class Apart(TurnError):
    pass


class TooGreat(TurnError):
    pass


class NoName(TurnError):
    pass


class NoRow(TurnError):
    pass
