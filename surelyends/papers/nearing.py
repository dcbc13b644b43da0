"""Fractions near the chances of procedures, below and above, that show themselves by their next values.

The chances are neared from below by steps along the slopes, rounded down to multiples of 1 / unit. A step never leads
beyond the chances: these are equal to their next values, which rise at least as the slopes tell. The slopes at the
chances are such that a column exists, here the *spread*, that is greater by 1 than the slopes times itself; so what is
a little below or above the chances, in the proportion of the spread, stays on its side of its next values. How little
it has to be is not known ahead: the unit gets finer until the next values show it.
"""

from surelyends.chances.lines import Lines, line_of_call
from surelyends.chances.tables import is_at_most
from surelyends.chances.values import next_of
from surelyends.numbers.fractions import Fraction
from surelyends.numbers.pivots import Echelon
from surelyends.papers.sure import names_of_layers, sure_layers
from surelyends.programs.programs import can_end

FIRST_BITS = 64


def lows_and_highs(program, names, error):
    """Two dicts from some procedures, which call no others: lows and highs that differ by at most the error.

    No next value of the lows is less than its low, none of the highs is greater than its high. Both are 1 for sure
    procedures, and 0 for those that cannot end; all other highs are below 1.
    """
    sure = names_of_layers(sure_layers(program, names))
    able = can_end(program)
    known = {name: 1 if name in sure else 0 for name in names if name in sure or name not in able}
    search = Search(program, known, tuple([name for name in names if name not in known]))
    search.rise()
    found = search.around(error)
    while found is None:
        search.refine()
        search.rise()
        found = search.around(error)
    return found


class Search:
    """A column of tops that are near the chances of procedures from below, over 1 << bits."""

    def __init__(self, program, known, searched):
        self.given = program
        self.known = known
        self.searched = searched
        self.tops = [0] * len(searched)
        self.bits = FIRST_BITS

    def refine(self):
        """Take a finer unit."""
        self.tops = [top << self.bits for top in self.tops]
        self.bits = 2 * self.bits

    def rise(self):
        """Make steps, until they are too small for half of the bits, or seem to lead nowhere with this unit."""
        for _ in range(4 * self.bits):
            steps = [max(0, step) for step, _ in self.steps_and_spread()]
            self.tops = [top + step for top, step in zip(self.tops, steps)]
            if max(steps, default=0) >> (self.bits // 2) == 0:
                return

    def steps_and_spread(self):
        """For each top the step to the next one, rounded down, and the spread, both over the unit."""
        unit = 1 << self.bits
        lines = self.lines_over(unit)
        width = len(self.searched)
        echelon = Echelon(width)
        for at, name in enumerate(self.searched):
            (value, *slopes), _ = lines.of_body(self.given[name])
            row = [-slope for slope in slopes]
            row[at] += unit
            rest = echelon.rest_of(row + [value - self.tops[at], unit])
            echelon.take(rest, echelon.place_in(rest))
        found = {
            place: (row[width] * unit // echelon.divisor, row[width + 1] * unit // echelon.divisor)
            for place, row in zip(echelon.places, echelon.rows)
        }
        return [found[place] for place in range(width)]

    def lines_over(self, unit):
        """What finds the lines of bodies, rounded down, with a slope for each procedure that is searched."""
        width = len(self.searched) + 1
        called = {name: line_of_call(value * unit, unit, None, width) for name, value in self.known.items()}
        for at, name in enumerate(self.searched):
            called[name] = line_of_call(self.tops[at], unit, at + 1, width)
        return Lines(called, width, unit)

    def around(self, error):
        """The lows and highs around the tops, or None if they do not show themselves, or are too far apart."""
        unit = 1 << self.bits
        # The last step left a gap to the next values of about 1 / unit; what bends them goes with the square of this.
        shift = self.bits - self.bits // 4
        spreads = [spread for _, spread in self.steps_and_spread()]
        lows = {name: Fraction(value) for name, value in self.known.items()}
        highs = dict(lows)
        for name, top, spread in zip(self.searched, self.tops, spreads):
            room = (spread >> shift) + 1
            lows[name] = Fraction(max(0, top - room), unit)
            highs[name] = Fraction(top + room, unit)
            if top + room >= unit or not is_at_most(highs[name] - lows[name], error):
                return None
        names = tuple(sorted(lows))
        if not _is_nowhere_above(lows, next_of(self.given, names, lows)):
            return None
        if not _is_nowhere_above(next_of(self.given, names, highs), highs):
            return None
        return lows, highs


def _is_nowhere_above(fractions, others):
    return all([is_at_most(fraction, others[name]) for name, fraction in fractions.items()])
