"""The refusals of the program, one class each."""


class WalkError(ValueError):
    pass


class BadWalk(WalkError):
    pass


class BadNumber(WalkError):
    pass


class NotClosed(WalkError):
    pass


class NotSimple(WalkError):
    pass
