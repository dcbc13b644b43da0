"""The errors that the package raises.

Errors that keep a value do not put it into their message: an integer can be too long for a text.
"""


class EndError(ValueError):
    """The base of the errors that take a message."""


class InvalidFraction(EndError):
    """A value is not a fraction."""


class InvalidRows(EndError):
    """A value is not rows of fractions, or not a tuple that fits them."""


class InvalidProgram(EndError):
    """There is no such program, or it cannot be taken here."""


class InvalidValues(EndError):
    """A value is not values of the program."""


class InvalidOperation(EndError):
    """Something cannot be done with these values."""


class InvalidEdit(EndError):
    """A value is not an edit that can be made now."""


class ParseError(EndError):
    """A value is not a text of what is to be read."""


class InvalidCommand(EndError):
    """A value is not a command."""


class InvalidNumber(IndexError):
    """A value is not a number that can be taken here."""

    def __init__(self, value):
        super().__init__("not a number that can be taken here")
        self.value = value


class UnknownName(KeyError):
    """There is nothing with this name."""

    def __init__(self, name):
        super().__init__("not a name that is known here")
        self.name = name


class TooMany(OverflowError):
    """There are more than the limit."""

    def __init__(self, limit):
        super().__init__("more than the limit")
        self.limit = limit


class NothingToUndo(LookupError):
    """There are not so many steps."""

    def __init__(self, many):
        super().__init__("not so many steps")
        self.many = many
