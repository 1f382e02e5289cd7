"""The refusals of the program."""


class ReelError(ValueError):
    pass


class NoPart(ReelError):
    pass


class NoMove(ReelError):
    pass
