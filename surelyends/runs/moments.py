"""Moments of runs. A moment never changes: so steps are taken back, and twins made, by going to another one."""

from surelyends.numbers.fractions import Fraction
from surelyends.programs.parts import bodies_in, weights_of


class Frame:
    """How far a run has gone in one body, and the frame in which it goes on behind this body."""

    def __init__(self, body, at, is_call, below):
        self.body = body
        self.at = at
        self.is_call = is_call
        self.below = below


class Moment:
    """A run behind its first so many steps.

    It has the innermost frame (None if the run has ended), the number of open calls now and at most, the moment
    before, and what the last step was: the number of a pick, a noted event, or neither.
    """

    def __init__(self, frame, calls, before=None, number=None, event=None):
        self.made = 0 if before is None else before.made + 1
        self.most = calls if before is None else max(before.most, calls)
        self.before = before
        self.number = number
        self.event = event
        while frame is not None and frame.at == len(frame.body):
            if frame.is_call:
                calls -= 1
            frame = frame.below
        self.frame = frame
        self.calls = calls


def first_moment(program, name):
    """The start of a run."""
    return Moment(Frame(program[name], 0, True, None), 1)


def coming_at(moment):
    """The statement that comes next, or None at the end."""
    if moment.frame is None:
        return None
    return moment.frame.body[moment.frame.at]


def waits_at(moment):
    """How many numbers can be picked now."""
    statement = coming_at(moment)
    return 0 if statement is None else len(weights_of(statement))


def goes_on_at(moment):
    """Whether a note or a call comes next, so that the run goes on by itself."""
    statement = coming_at(moment)
    return statement is not None and statement[0] in ("note", "call")


def _passed(frame):
    return Frame(frame.body, frame.at + 1, frame.is_call, frame.below)


def stepped(program, moment):
    """The moment behind a step where a note, a call or a "stay" comes next."""
    statement = coming_at(moment)
    frame = moment.frame
    if statement[0] == "note":
        return Moment(_passed(frame), moment.calls, moment, None, statement[1])
    if statement[0] == "call":
        called = Frame(program[statement[1]], 0, True, _passed(frame))
        return Moment(called, moment.calls + 1, moment)
    return Moment(frame, moment.calls, moment)


def picked(moment, number):
    """The moment behind a pick that can be made."""
    statement = coming_at(moment)
    frame = moment.frame
    if statement[0] == "toss":
        frame = Frame(bodies_in(statement)[number], 0, False, _passed(frame))
    elif number == 1:
        # The frame below still stands at the repeat: behind the round it is asked again.
        frame = Frame(bodies_in(statement)[0], 0, False, frame)
    else:
        frame = _passed(frame)
    return Moment(frame, moment.calls, moment, number)


def gone_on(program, moment, room):
    """The moment at the next pick or "stay", or at the end, or behind so many further steps if it takes more."""
    for _ in range(room):
        if not goes_on_at(moment):
            return moment
        moment = stepped(program, moment)
    return moment


def picks_of(moment):
    """The tuple of the picks that were made."""
    found = []
    while moment.before is not None:
        if moment.number is not None:
            found.append(moment.number)
        moment = moment.before
    return tuple(found[::-1])


def notes_of(moment):
    """The tuple of the events that were noted."""
    found = []
    while moment.before is not None:
        if moment.event is not None:
            found.append(moment.event)
        moment = moment.before
    return tuple(found[::-1])


def chance_at(moment):
    """The product of the chances of all picks that were made."""
    top = 1
    bottom = 1
    while moment.before is not None:
        if moment.number is not None:
            weights = weights_of(coming_at(moment.before))
            top = top * weights[moment.number]
            bottom = bottom * sum(weights)
        moment = moment.before
    return Fraction(top, bottom)
