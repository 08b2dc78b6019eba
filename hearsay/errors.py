"""The refusals. Each stands under HearError alone, so that none is taken for another."""


class HearError(ValueError):
    pass


class NoNet(HearError):
    pass


class NoPath(HearError):
    pass


class OutOfTime(HearError):
    pass


class Twice(HearError):
    pass


class TooLate(HearError):
    pass
