"""Runs that end, and their chances."""

from surelyends.errors import InvalidNumber, InvalidOperation, TooMany
from surelyends.numbers.fractions import Fraction, total_of
from surelyends.numbers.integers import is_between, is_plain_integer
from surelyends.programs.programs import check_closed, check_name
from surelyends.runs.moments import (
    chance_at,
    coming_at,
    first_moment,
    gone_on,
    notes_of,
    picked,
    picks_of,
    waits_at,
)
from surelyends.runs.series import ends_series, scale_of
from surelyends.runs.tosser import MAX_STEPS, at_next_pick

MOST_STEPS = 12
MOST_PICKS = 5000

MOST_STEPS_OF_CHANCES = 60


def ended_runs(program, name, steps):
    """All runs that end after at most so many steps, ascending by their picks."""
    check_closed(program)
    check_name(program, name)
    if not is_between(steps, 0, MOST_STEPS):
        raise InvalidNumber(steps)
    found = _runs_within(program, name, steps)
    yield from found


def _runs_within(program, name, steps):
    found = []
    waiting = [first_moment(program, name)]
    many = len(waiting)
    while len(waiting) > 0:
        last = waiting.pop()
        moment = gone_on(program, last, steps - last.made)
        if coming_at(moment) is None:
            found.append(_told(moment))
        elif moment.made < steps:
            further = [picked(moment, number) for number in range(waits_at(moment))]
            many = many + len(further)
            if many > MOST_PICKS:
                raise TooMany(MOST_PICKS)
            # The last one is taken first, so the runs are found in the order of their picks.
            waiting.extend(further[::-1])
    return found


def _told(moment):
    return picks_of(moment), moment.made, moment.most, notes_of(moment)


def is_run(program, name, value):
    """Whether the value is the tuple of a run of the procedure that ends."""
    check_closed(program)
    check_name(program, name)
    if not _has_form_of_run(value):
        return False
    moment = gone_on(program, first_moment(program, name), MAX_STEPS)
    for number in value[0]:
        if moment.made == MAX_STEPS or not is_between(number, 0, waits_at(moment) - 1):
            return False
        moment = picked(moment, number)
        moment = gone_on(program, moment, MAX_STEPS - moment.made)
    return coming_at(moment) is None and _told(moment) == value


def _has_form_of_run(value):
    # A Fraction or True could be equal to an integer of a run, but is none.
    if not isinstance(value, tuple) or len(value) != 4 or not isinstance(value[0], tuple):
        return False
    return all([is_plain_integer(one) for one in value[0] + value[1:3]])


def chance_of(program, name, picks):
    """The chance that a run begins with these picks, or has just these."""
    check_closed(program)
    check_name(program, name)
    if not isinstance(picks, tuple):
        raise InvalidOperation("the picks are no tuple")
    moment = first_moment(program, name)
    for number in picks:
        moment = at_next_pick(program, moment)
        if not is_between(number, 0, waits_at(moment) - 1):
            raise InvalidOperation("a pick cannot be made")
        moment = picked(moment, number)
    return chance_at(moment)


def ends_after(program, name, steps):
    """The tuple of the chances that a run ends after just 0, 1, .. up to so many steps."""
    check_closed(program)
    check_name(program, name)
    _check_steps_of_chances(steps)
    return _chances(program, name, steps, steps + 1)


def ends_by(program, name, steps, depth):
    """The chance that a run ends after at most so many steps, with at most so many open calls."""
    check_closed(program)
    check_name(program, name)
    _check_steps_of_chances(steps)
    _check_steps_of_chances(depth)
    return total_of(_chances(program, name, steps, depth))


def _chances(program, name, steps, depth):
    scale = scale_of(program)
    chances = []
    bottom = 1
    for entry in ends_series(program, name, scale, steps, depth):
        chances.append(Fraction(entry, bottom))
        bottom = bottom * scale
    return tuple(chances)


def _check_steps_of_chances(many):
    if not is_between(many, 0, MOST_STEPS_OF_CHANCES):
        raise InvalidNumber(many)
