"""A tosser goes through one run, step by step."""

from surelyends.errors import InvalidNumber, InvalidOperation, NothingToUndo, TooMany
from surelyends.numbers.integers import is_at_least, is_between
from surelyends.programs.programs import check_closed, check_name
from surelyends.runs.moments import (
    chance_at,
    coming_at,
    first_moment,
    goes_on_at,
    gone_on,
    notes_of,
    picked,
    picks_of,
    stepped,
    waits_at,
)
from surelyends.trials import Trial

MAX_STEPS = 10000


class Tosser:
    """Goes through one run of a procedure."""

    def __init__(self, program, name):
        check_closed(program)
        check_name(program, name)
        self._program = program
        self._procedure = name
        self._moment = first_moment(program, name)

    @property
    def program(self):
        return self._program

    @property
    def procedure(self):
        return self._procedure

    @property
    def picks(self):
        return picks_of(self._moment)

    @property
    def notes(self):
        return notes_of(self._moment)

    @property
    def steps(self):
        return self._moment.made

    @property
    def depth(self):
        return self._moment.calls

    @property
    def deepest(self):
        return self._moment.most

    @property
    def chance(self):
        return chance_at(self._moment)

    @property
    def has_ended(self):
        return coming_at(self._moment) is None

    @property
    def left(self):
        return coming_at(self._moment)

    @property
    def waits(self):
        return waits_at(self._moment)

    def step(self):
        """Make a step that is no pick."""
        if coming_at(self._moment) is None or waits_at(self._moment) > 0:
            raise InvalidOperation("the run has ended, or a pick comes next")
        self._moment = stepped(self._program, self._moment)
        return self.steps

    def pick(self, number):
        """Make a pick."""
        self._moment = _picked_if_possible(self._moment, number)
        return self.steps

    def go(self, *picks):
        """Make steps with these picks until a further one or a "stay" comes, or the run has ended."""
        return self.go_all(picks)

    def go_all(self, picks):
        """Make steps with the picks of a tuple, as `go`."""
        if not isinstance(picks, tuple):
            raise InvalidOperation("the picks are no tuple")
        moment = at_next_pick(self._program, self._moment)
        for number in picks:
            moment = at_next_pick(self._program, _picked_if_possible(moment, number))
        self._moment = moment
        return self.steps

    def back(self, *, many=1):
        """Take back the last steps."""
        if not is_at_least(many, 0):
            raise InvalidNumber(many)
        if many > self.steps:
            raise NothingToUndo(many)
        for _ in range(many):
            self._moment = self._moment.before
        return self.steps

    def trial(self):
        """A block behind which this tosser is as ahead of it."""
        return Trial(self)

    def attempt(self, action):
        """What an action returns for this tosser, which is then as before."""
        with self.trial() as same:
            return action(same)

    def twin(self):
        """An independent tosser in the same state."""
        made = Tosser(self._program, self._procedure)
        made._moment = self._moment
        return made

    def __eq__(self, other):
        if not isinstance(other, Tosser) or self.steps != other.steps:
            return False
        return self.program == other.program and self.procedure == other.procedure and self.picks == other.picks

    def __str__(self):
        return f"tosser of {self.procedure}: {self.steps} steps, depth {self.depth}"


def at_next_pick(program, moment):
    """The moment at which a pick or a "stay" comes, or the run has ended."""
    found = gone_on(program, moment, MAX_STEPS)
    if goes_on_at(found):
        raise TooMany(MAX_STEPS)
    return found


def _picked_if_possible(moment, number):
    many = waits_at(moment)
    if many == 0:
        raise InvalidOperation("no pick comes next")
    if not is_between(number, 0, many - 1):
        raise InvalidNumber(number)
    return picked(moment, number)
