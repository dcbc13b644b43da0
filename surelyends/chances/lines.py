"""Next values of bodies together with their slopes.

A *line* is a list of tops, that of the next value ahead of those of the slopes, and their one bottom. Lines are not
brought to a least form on the way: each call in a body brings its bottom in only once.
"""

from math import lcm

from surelyends.programs.parts import bodies_in, weights_of


class Lines:
    """Finds the lines of bodies, all of one width, by those of the procedures that they call.

    With a unit each line is rounded down on the way, to one with the unit as its bottom. Next values and slopes rise
    with the lines of which they are made, so the result is at most the exact line.
    """

    def __init__(self, called, width, unit=None):
        self.called = called
        self.width = width
        self.unit = unit

    def rounded(self, tops, bottom):
        """The line, rounded down if there is a unit."""
        if self.unit is None:
            return tops, bottom
        return [top * self.unit // bottom for top in tops], self.unit

    def of_body(self, body):
        """The line of a body."""
        tops, bottom = self.rounded([1] + [0] * (self.width - 1), 1)
        for statement in body:
            more, times = self.of_statement(statement)
            slopes = [one * more[0] + tops[0] * other for one, other in zip(tops[1:], more[1:])]
            tops, bottom = self.rounded([tops[0] * more[0]] + slopes, bottom * times)
        return tops, bottom

    def of_statement(self, statement):
        """The line of a statement, not rounded itself."""
        word = statement[0]
        if word == "call":
            return self.called[statement[1]]
        if word == "toss":
            return self.of_toss(statement)
        if word == "again":
            return self.of_repeat(statement)
        value = 1 if word == "note" else 0
        return [value] + [0] * (self.width - 1), 1

    def of_toss(self, statement):
        """The line of a toss."""
        lines = [self.of_body(body) for body in bodies_in(statement)]
        weights = weights_of(statement)
        shared = 1
        for _, bottom in lines:
            shared = lcm(shared, bottom)
        sums = [0] * self.width
        for weight, (tops, bottom) in zip(weights, lines):
            factor = weight * (shared // bottom)
            sums = [told + factor * top for told, top in zip(sums, tops)]
        return sums, shared * sum(weights)

    def of_repeat(self, statement):
        """The line of a repeat."""
        stop, go = weights_of(statement)
        tops, bottom = self.of_body(bodies_in(statement)[0])
        rest = (stop + go) * bottom - go * tops[0]
        if self.width == 1:
            # Only slopes need the square of the rest: without them it would make the integers longer for nothing.
            return [stop * bottom], rest
        slopes = [stop * go * bottom * slope for slope in tops[1:]]
        return [stop * bottom * rest] + slopes, rest * rest


def line_of_call(top, bottom, place, width):
    """The line of a call whose procedure has this value: its own slope, at this place, is 1; None for no place."""
    return [top] + [bottom if at == place else 0 for at in range(1, width)], bottom
