"""The refusals: one class for each, all under YardError."""


class YardError(ValueError):
    pass


class BadName(YardError):
    pass


class BadEnd(YardError):
    pass


class TooMany(YardError):
    pass


class BadWay(YardError):
    pass


class Held(YardError):
    def __init__(self, part):
        self.part = part


class Seen(YardError):
    def __init__(self, part):
        self.part = part


class Stiff(YardError):
    def __init__(self, part):
        self.part = part


class NoTrain(YardError):
    pass


class NoTurn(YardError):
    pass


class OneFault(YardError):
    pass


class BadText(YardError):
    def __init__(self, row):
        self.row = row
