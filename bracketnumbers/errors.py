"""What the package refuses, by name."""


class BracketError(ValueError):
    pass


class NoPlace(BracketError):
    pass


class NoRow(BracketError):
    pass
