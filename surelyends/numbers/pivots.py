"""Rows of integers over one divisor, in which one line after another is used to clear a place.

All entries stay integers: each is a minor of the lines that were used, so that the division by the divisor before
leaves no rest. This keeps them shorter than fractions would be, and no common divisors need to be looked for.
"""


def cleared_by(rows, line, at, divisor):
    """The rows, over the entry of the line at this place, less what makes their own entry there 0."""
    lead = line[at]
    return [
        [(entry * lead - row[at] * other) // divisor for entry, other in zip(row, line)]
        for row in rows
    ]


class Echelon:
    """Independent lines in a cleared form: each has the divisor at its own place, and the others have 0 there.

    Only the first `width` entries of a line are cleared; those behind them go along.
    """

    def __init__(self, width):
        self.width = width
        self.rows = []
        self.places = []
        self.divisor = 1

    def rest_of(self, line):
        """What is left of divisor * line if its entries at all places are cleared."""
        rest = [self.divisor * entry for entry in line]
        for row, place in zip(self.rows, self.places):
            factor = line[place]
            if factor != 0:
                rest = [entry - factor * other for entry, other in zip(rest, row)]
        return rest

    def place_in(self, rest):
        """The first place at which a rest is not 0, or None if it hangs on the lines."""
        for place in range(self.width):
            if rest[place] != 0:
                return place
        return None

    def take(self, rest, place):
        """Take a rest as a further line, with its own place."""
        self.rows = cleared_by(self.rows, rest, place, self.divisor) + [rest]
        self.places = self.places + [place]
        self.divisor = rest[place]
