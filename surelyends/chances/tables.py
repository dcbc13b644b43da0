"""Forms that many papers share: words with parts, and rows that tell fractions of procedures."""

from surelyends.numbers.fractions import as_fraction, is_fraction, is_fractions


def is_headed(value, word, many):
    """Whether the value is a tuple of so many parts, and this word is the first one."""
    if not isinstance(value, tuple) or len(value) != many:
        return False
    return isinstance(value[0], str) and value[0] == word


def is_table(value, many):
    """Whether the value is a tuple of rows, each a string and so many fractions, with ascending strings."""
    if not isinstance(value, tuple) or not all([_is_row(row, many) for row in value]):
        return False
    names = names_in(value)
    return all([name < other for name, other in zip(names, names[1:])])


def _is_row(value, many):
    if not isinstance(value, tuple) or len(value) != many + 1:
        return False
    return isinstance(value[0], str) and is_fractions(value[1:])


def names_in(table):
    """The tuple of the strings of the rows."""
    return tuple([row[0] for row in table])


def is_weights(value, names):
    """Whether the value is an ascending tuple of pairs of just these names and fractions above 0."""
    if not is_table(value, 1) or names_in(value) != names:
        return False
    return all([is_above_0(weight) for _, weight in value])


def is_above_0(fraction):
    """Whether a fraction is above 0."""
    return as_fraction(fraction).top > 0


def is_at_most(fraction, other):
    """Whether a fraction is at most another one."""
    return not as_fraction(other).is_less(fraction)


def is_from_0_to_1(value):
    """Whether the value is a fraction from 0 to 1."""
    if not is_fraction(value):
        return False
    part = as_fraction(value)
    return 0 <= part.top <= part.bottom
