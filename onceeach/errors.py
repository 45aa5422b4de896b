"""The refusals of the package."""


class OnceError(ValueError):
    """Any refusal."""


class NoBound(OnceError):
    """What was handed in for a bound is none."""


class NoPrime(OnceError):
    """The bound is no prime."""


class NoPower(OnceError):
    """The bound is no power of a prime, of two factors or more."""


class NoNumber(OnceError):
    """What was handed in for a number is none that is taken there."""


class NoFunction(OnceError):
    """What was handed in for a function is none by the bound."""


class NoPoly(OnceError):
    """What was handed in for a polynomial is none by the bound."""


class Apart(OnceError):
    """What is asked for does not exist for what was handed in."""


class NoRow(OnceError):
    """The desk does not take this row."""


class NoList(OnceError):
    """What was handed in for a list is none: at tells the place, -1 for the whole."""

    def __init__(self, at):
        self.at = at


class NoText(OnceError):
    """The text writes nothing that is taken there: at tells the word, -1 for no text."""

    def __init__(self, at):
        self.at = at


class TooGreat(OnceError):
    """The bound, many, is greater than most, the greatest that is taken there."""

    def __init__(self, many, most):
        self.many = many
        self.most = most
