"""The errors of the program.

They keep their arguments, but make no text of them: Python refuses to write out a very long integer.
"""


class FactorError(ValueError):
    """Any error of the program."""


class BadName(FactorError):
    """A text is not a name."""

    def __init__(self, name):
        self.name = name


class DuplicateName(FactorError):
    """A name is there twice."""

    def __init__(self, name):
        self.name = name


class UnknownName(FactorError):
    """There is no unknown with this name."""

    def __init__(self, name):
        self.name = name


class BadCount(FactorError):
    """There are too few or too many of something."""

    def __init__(self, count):
        self.count = count


class BadSet(FactorError):
    """A value is not a set of the unknowns."""

    def __init__(self, value):
        self.value = value


class BadRow(FactorError):
    """A value is not a row over the unknowns."""

    def __init__(self, value):
        self.value = value


class BadText(FactorError):
    """A text is none of those that are wanted."""

    def __init__(self, text):
        self.text = text


class BadNumber(FactorError):
    """A value is not the number that is wanted."""

    def __init__(self, value):
        self.value = value


class BadFactors(FactorError):
    """A dict of factors does not fit the shape."""

    def __init__(self, value):
        self.value = value


class BadSteps(FactorError):
    """A list of steps is not valid for the readings."""

    def __init__(self, value):
        self.value = value


class BadSum(FactorError):
    """A dict of weights is not a sum."""

    def __init__(self, value):
        self.value = value


class Reached(FactorError):
    """The unknown follows always, so nothing hides it."""

    def __init__(self, name):
        self.name = name


class NotReached(FactorError):
    """No steps lead to the unknown."""

    def __init__(self, name):
        self.name = name


class IsRead(FactorError):
    """The unknown is a reading."""

    def __init__(self, name):
        self.name = name


class NotMixed(FactorError):
    """No factors and multipliers give the unknown."""

    def __init__(self, name):
        self.name = name


class NoPairing(FactorError):
    """There is no pairing; the value is a crowded set."""

    def __init__(self, value):
        self.value = value


class SumFollows(FactorError):
    """The sum follows always, so nothing hides it."""

    def __init__(self, value):
        self.value = value


class SumNever(FactorError):
    """The sum follows never."""

    def __init__(self, value):
        self.value = value


class UnlikeUnknowns(FactorError):
    """Two shapes do not have the same unknowns."""

    def __init__(self, names):
        self.names = names


class NothingToUndo(FactorError):
    """There is no change that can be taken back."""
