"""The refusals, one class for each, all straight under MakeError."""


class MakeError(ValueError):
    pass


class NoMill(MakeError):
    pass


class NoText(MakeError):
    pass


class NoState(MakeError):
    pass


class Resting(MakeError):
    pass


class NoBell(MakeError):
    pass


class Shut(MakeError):
    pass


class NoLay(MakeError):
    pass


class NoStep(MakeError):
    pass


class NoHold(MakeError):
    pass


class NoRow(MakeError):
    pass
