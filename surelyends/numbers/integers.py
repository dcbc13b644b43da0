"""What counts as an integer."""


def is_plain_integer(value):
    """Whether the value is an integer other than True and False."""
    return isinstance(value, int) and not isinstance(value, bool)


def is_at_least(value, least):
    """Whether the value is an integer that is not below this one."""
    return is_plain_integer(value) and value >= least


def is_between(value, least, greatest):
    """Whether the value is an integer from the one to the other."""
    return is_plain_integer(value) and least <= value <= greatest
