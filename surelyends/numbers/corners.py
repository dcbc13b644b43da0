"""Searches a corner of what lines of integers allow.

A line (total, a, b, ..) allows the columns with a * first + b * second + .. at most the total; no column is below 0.
Its *gap* is the total less the sum. The places and the gaps are numbered: first the places, then the lines.
"""

from surelyends.numbers.pivots import cleared_by


class Corner:
    """A column at which as many places and gaps as it has places are 0.

    The column is told by these `gaps`: `rows` has for each place a constant and a factor for each of the gaps, all
    over one divisor, which is above 0. So the constants are the column itself.
    """

    def __init__(self, lines, width):
        self.lines = lines
        self.width = width
        self.gaps = list(range(width))
        self.rows = [[0] + [1 if at == place else 0 for at in range(width)] for place in range(width)]
        self.divisor = 1

    def constant_of(self, number):
        """The place or gap with this number at the corner, over the divisor."""
        if number < self.width:
            return self.rows[number][0]
        total, *entries = self.lines[number - self.width]
        return self.divisor * total - sum([entry * row[0] for entry, row in zip(entries, self.rows)])

    def line_of(self, number):
        """The place or gap with this number, told by the gaps of the corner."""
        if number < self.width:
            return self.rows[number]
        total, *entries = self.lines[number - self.width]
        line = [self.divisor * total] + [0] * self.width
        for entry, row in zip(entries, self.rows):
            if entry != 0:
                line = [told - entry * other for told, other in zip(line, row)]
        return line

    def first_below(self):
        """The least number of a place or gap that is below 0, or None."""
        for number in range(self.width + len(self.lines)):
            if self.constant_of(number) < 0:
                return number
        return None

    def way_out(self, line):
        """The place in the line of the gap with the least number that raises it, or None."""
        ways = [at for at in range(1, self.width + 1) if line[at] > 0]
        if len(ways) == 0:
            return None
        return min(ways, key=lambda at: self.gaps[at - 1])

    def move(self, number, line, at):
        """Go to the corner at which this place or gap, with this line, is 0 instead of the one at `at`."""
        moved = cleared_by(self.rows, line, at, self.divisor)
        self.rows = [row[:at] + [before[at]] + row[at + 1:] for row, before in zip(moved, self.rows)]
        self.gaps[at - 1] = number
        self.divisor = line[at]


def corner_or_bar(lines, width):
    """A pair of a corner that the lines allow and None, or of None and factors of the lines, as they bar it.

    The sum of the factors times the totals is below 0 then, and times the entries nowhere below 0. That the least
    numbers are taken everywhere keeps the search from going round in a ring.
    """
    corner = Corner(lines, width)
    number = corner.first_below()
    while number is not None:
        line = corner.line_of(number)
        at = corner.way_out(line)
        if at is None:
            return None, _factors(corner, number, line)
        corner.move(number, line, at)
        number = corner.first_below()
    return corner, None


def _factors(corner, number, line):
    # The line tells that divisor * its gap is a negative constant less some gaps: all these gaps are moved to one side.
    factors = [0] * len(corner.lines)
    told = [(number, corner.divisor)]
    told.extend([(gap, -factor) for gap, factor in zip(corner.gaps, line[1:])])
    for gap, factor in told:
        if gap >= corner.width:
            factors[gap - corner.width] = factor
    return factors
