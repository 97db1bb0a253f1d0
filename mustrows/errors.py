"""The refusals of the program."""


class MustError(ValueError):
    pass


class NoText(MustError):
    pass


class NoRow(MustError):
    pass
