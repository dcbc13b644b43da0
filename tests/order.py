"""The errors of a function, the first one that is due."""

from helpers import STRANGE, raised

ATTRIBUTES = {"InvalidNumber": "value", "UnknownName": "name"}


def check_errors(call, *told):
    """Each parameter is told as (a right value, wrong ones, the error for them), in the order of the checks.

    With one wrong value its error is raised, with two that of the first one, also if the second one is any value.
    """
    right = [parameter[0] for parameter in told]
    for at, (_, wrong, error_class) in enumerate(told):
        for value in wrong:
            for passed in variants(right, at, value, told):
                error = raised(error_class, call, *passed)
                attribute = ATTRIBUTES.get(error_class.__name__)
                if attribute is not None:
                    assert getattr(error, attribute) is value, (error_class, value)


def variants(right, at, value, told):
    passed = list(right)
    passed[at] = value
    yield passed
    for behind in range(at + 1, len(told)):
        for wrong in told[behind][1][::7]:
            other = list(passed)
            other[behind] = wrong
            yield other


def strange_but(is_right):
    """All strange values for which this does not hold."""
    return [value for value in STRANGE if not is_right(value)]
