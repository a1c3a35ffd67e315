"""The refusals: each has a class of its own, and all stand under one base alone."""


class WeighError(ValueError):
    pass


class NoKind(WeighError):
    pass


class WrongKind(WeighError):
    pass


class NoWeight(WeighError):
    pass


class NoWord(WeighError):
    pass


class Unlike(WeighError):
    pass


class NoClosure(WeighError):
    pass


class TooGreat(WeighError):
    pass


class NoText(WeighError):
    pass


class NoName(WeighError):
    pass


class NoRow(WeighError):
    pass
