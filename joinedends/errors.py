"""The errors that the program raises."""


class HallError(ValueError):
    """The base class of all errors of the program."""


class Malformed(HallError):
    """A text or a line that cannot stand where it stands."""

    def __init__(self, index):
        self.index = index


class InvalidRule(HallError):
    """An equation of a list that is no rule."""

    def __init__(self, index):
        self.index = index


class BadStep(HallError):
    """A step that does not apply."""

    def __init__(self, number):
        self.number = number


class UnknownName(HallError):
    """A name that is not declared, or that has no weight or no list."""

    def __init__(self, name):
        self.name = name


class WrongArity(HallError):
    """An application with another number of arguments than its arity."""

    def __init__(self, name):
        self.name = name


class InvalidName(HallError):
    """A string that is no name."""


class InvalidArity(HallError):
    """An arity that an operation cannot have."""


class Duplicate(HallError):
    """Something that is there already."""


class TooLarge(HallError):
    """A term, a value or a signature beyond its bounds."""


class StepLimit(HallError):
    """More steps than the limit."""


class NoPosition(HallError):
    """A tuple that is no position of the term."""


class NotFound(HallError):
    """Something that is not there."""


class Cyclic(HallError):
    """An import that would let a theory reach itself."""


class InvalidOrder(HallError):
    """A description from which no order can be made."""
