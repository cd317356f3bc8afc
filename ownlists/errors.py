"""The errors that the package raises; each keeps the values that it was made with."""


class NoBill(LookupError):
    """A NAME that is none of the bills."""

    def __init__(self, name):
        self.name = name


class NoPayer(LookupError):
    """A NAME that is none of the payers."""

    def __init__(self, name):
        self.name = name


class NoNumber(LookupError):
    """A number by which nothing is told."""

    def __init__(self, number):
        self.number = number


class NoFrame(LookupError):
    """A payer whose LIST has no frame."""

    def __init__(self, name):
        self.name = name


class Twice(ValueError):
    """A NAME that would stand twice where it may stand once."""

    def __init__(self, name):
        self.name = name


class NotGood(ValueError):
    """Two payers whose LISTS do not agree."""

    def __init__(self, one, other):
        self.one = one
        self.other = other


class BadText(ValueError):
    """A text that tells nothing of the kind that is asked for."""


class OtherBook(ValueError):
    """Two BOOKs that do not have the same bills and payers."""


class Outside(ValueError):
    """A payer whose LIST would not be within its frame."""

    def __init__(self, name):
        self.name = name


class BadLine(ValueError):
    """The number of a line that cannot stand where it stands."""

    def __init__(self, number):
        self.number = number


class Stopped(ValueError):
    """The number of a deed that was refused, its error's class and the NAME that this keeps."""

    def __init__(self, number, raised, value):
        self.number = number
        self.raised = raised
        self.value = value
