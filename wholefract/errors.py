"""The refusals, one class each, all straight under FractError."""


class FractError(ValueError):
    pass


class AtRest(FractError):
    def __init__(self, steps):
        self.steps = steps


class NoText(FractError):
    pass


class NoNumber(FractError):
    pass


class TooMany(FractError):
    pass


class NoOrder(FractError):
    pass


class NoProgram(FractError):
    pass


class Shared(FractError):
    pass


class NoPowers(FractError):
    pass


class NoTrail(FractError):
    pass


class NoName(FractError):
    pass


class NoDeed(FractError):
    pass


class NoRow(FractError):
    pass
