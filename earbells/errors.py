"""The refusals of the program, each a class of its own under BellError."""


class BellError(ValueError):
    pass


class NoRule(BellError):
    pass


class NoChoir(BellError):
    # bell: the number of the first wrong bell, or None
    def __init__(self, bell):
        self.bell = bell


class NoText(BellError):
    # row: the number of the first wrong row, or None
    def __init__(self, row):
        self.row = row


class Waiting(BellError):
    # A copy, so that whoever takes the refusal has a list of his own.
    def __init__(self, names):
        self.names = list(names)


class Mixed(BellError):
    pass


class NoName(BellError):
    def __init__(self, name):
        self.name = name


class NoRound(BellError):
    def __init__(self, most):
        self.most = most


class NoListening(BellError):
    pass


class NoRow(BellError):
    pass


class NoStand(BellError):
    pass
