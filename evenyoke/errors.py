"""The refusals of the program: each kind of refusal has a class of its own, straight under YokeError."""


class YokeError(ValueError):
    pass


class NoPart(YokeError):
    pass


class NoName(YokeError):
    pass


class Twice(YokeError):
    pass


class TooMany(YokeError):
    pass


class NoWork(YokeError):
    pass


class NoHand(YokeError):
    pass


class NoChore(YokeError):
    pass


class NotSo(YokeError):
    pass


class NoDeed(YokeError):
    pass


class NoLine(YokeError):
    pass
