"""The formulas and the forms of papers once more, as the document tells them, for tests to compare with.

They count with fractions of the standard library, and know programs only as dicts from names to bodies.
"""

import fractions
import itertools
import math

from helpers import all_parts, as_own, as_python, is_integer
from surelyends.numbers.fractions import Fraction

ZERO, ONE = fractions.Fraction(0), fractions.Fraction(1)


def is_fraction(value):
    return type(value) is Fraction or is_integer(value)


def parts_of(statement):
    """Pairs (share, body) of what can be gone through, with the mean number of times."""
    if statement[0] == "toss":
        total = sum(weight for weight, _ in statement[1:])
        return [(fractions.Fraction(weight, total), body) for weight, body in statement[1:]]
    if statement[0] == "again":
        return [(fractions.Fraction(statement[2], statement[1]), statement[3])]
    if statement[0] == "choose":
        return [(ONE, body) for body in statement[1:]]
    return []


def statements_in(body):
    for statement in body:
        yield statement
        for _, part in parts_of(statement):
            yield from statements_in(part)


# [7.1], [7.2]

def next_value(body, values):
    return math.prod((next_of_statement(statement, values) for statement in body), start=ONE)


def next_of_statement(statement, values):
    if statement[0] == "note":
        return ONE
    if statement[0] == "stay":
        return ZERO
    if statement[0] == "call":
        return as_python(values[statement[1]])
    if statement[0] == "toss":
        return sum(share * next_value(body, values) for share, body in parts_of(statement))
    _, stop, go, body = statement
    return stop / (stop + go - go * next_value(body, values))


def slope(body, values, name):
    return sum((slope_of_statement(statement, values, name) * next_value(body[:at] + body[at + 1:], values)
                for at, statement in enumerate(body)), start=ZERO)


def slope_of_statement(statement, values, name):
    if statement[0] in ("note", "stay"):
        return ZERO
    if statement[0] == "call":
        return ONE if statement[1] == name else ZERO
    if statement[0] == "toss":
        return sum(share * slope(body, values, name) for share, body in parts_of(statement))
    _, stop, go, body = statement
    return stop * go * slope(body, values, name) / (stop + go - go * next_value(body, values)) ** 2


def rounds(bodies, values, many):
    values = {name: as_python(value) for name, value in values.items()}
    for _ in range(many):
        values = {name: next_value(body, values) for name, body in bodies.items()}
    return values


def degrees(bodies, depth):
    found = {name: 0 for name in bodies}
    for _ in range(depth):
        found = {name: degree(body, found) for name, body in bodies.items()}
    return found


def degree(body, found):
    total = 0
    for statement in body:
        if statement[0] == "call":
            total += found[statement[1]] + 1
        else:
            total += max([degree(part, found) for _, part in parts_of(statement)], default=0)
    return total


# [0.11], [0.12], [8.1]

def called(body):
    return {statement[1] for statement in statements_in(body) if statement[0] == "call"}


def reach(bodies, name):
    found = {name}
    while True:
        more = found.union(*(called(bodies[other]) for other in found))
        if more == found:
            return tuple(sorted(found))
        found = more


def has_stay(body):
    return ("stay",) in list(statements_in(body))


def able(bodies):
    values = {name: 0 for name in bodies}
    for _ in range(len(bodies) + 1):
        values = {name: int(next_value(body, values) > 0) for name, body in bodies.items()}
    return {name for name in bodies if values[name]}


def knots(bodies):
    """In their order: again and again the first one, by its least name, that calls no others but those ahead."""
    left = {tuple(sorted(other for other in bodies if other in reach(bodies, name) and name in reach(bodies, other)))
            for name in bodies}
    found = []
    while left:
        ahead = {name for knot in found for name in knot}
        ready = [knot for knot in left if all(called(bodies[name]) <= ahead | set(knot) for name in knot)]
        found.append(min(ready))
        left.remove(min(ready))
    return tuple(found)


def in_the_mean(body, worth):
    """The sum of worth(statement) in the mean, a choice as the greatest one of its bodies."""
    total = ZERO
    for statement in body:
        parts = [share * in_the_mean(part, worth) for share, part in parts_of(statement)]
        if not parts:
            total += worth(statement)
        else:
            total += max(parts) if statement[0] == "choose" else sum(parts)
    return total


def mean_calls(body, name):
    return in_the_mean(body, lambda statement: 1 if statement == ("call", name) else 0)


def load(body, weights):
    """The mean calls of procedures times their weights, by a dict that need not have them all."""
    return in_the_mean(body, lambda statement: as_python(weights.get(statement[1], 0)) if statement[0] == "call" else 0)


def cost(body, prices):
    return in_the_mean(body, lambda statement: prices.get(statement[1], 0) if statement[0] == "note" else 0)


# [9.3], [10.1]

def solved(rows, totals):
    """The only column with these totals, by fractions of the standard library, or None."""
    lines = [list(row) + [total] for row, total in zip(rows, totals)]
    for at in range(len(lines)):
        lead = next((line for line in lines[at:] if line[at] != 0), None)
        if lead is None:
            return None
        lines.remove(lead)
        lead = [entry / lead[at] for entry in lead]
        lines = [[entry - line[at] * other for entry, other in zip(line, lead)] for line in lines]
        lines.insert(at, lead)
    return [line[-1] for line in lines]


def pace(bodies, knot):
    """By other ways than the package: a falling knot has weights 1 above their loads, an even one a common factor 1."""
    rows = [[mean_calls(bodies[name], other) for other in knot] for name in knot]
    rest = [[(at == place) - entry for place, entry in enumerate(row)] for at, row in enumerate(rows)]
    column = solved([[ONE * entry for entry in row] for row in rest], [ONE] * len(knot))
    if column is not None and min(column) > 0:
        return "falling"
    # With 1 for the first procedure, all rows but one tell the other weights of an even knot.
    others = solved([row[1:] for row in rest[1:]], [-row[0] for row in rest[1:]]) if len(knot) > 1 else []
    if others is not None and all(other > 0 for other in others):
        if sum(entry * weight for entry, weight in zip(rest[0], [1] + others)) == 0:
            return "even"
    return "growing"


def is_sure(bodies, name):
    part = {other: bodies[other] for other in reach(bodies, name)}
    ended = able(part)
    if any(has_stay(body) or other not in ended for other, body in part.items()):
        return False
    return all(pace(part, knot) != "growing" for knot in knots(part))


# Papers

def rows_of(value, width):
    """A dict from the names of the rows to lists of fractions, or None if these are no such rows."""
    if type(value) is not tuple:
        return None
    for row in value:
        if type(row) is not tuple or len(row) != width + 1 or type(row[0]) is not str:
            return None
        if not all(is_fraction(one) for one in row[1:]):
            return None
    names = [row[0] for row in value]
    if names != sorted(set(names)):
        return None
    return {row[0]: [as_python(one) for one in row[1:]] for row in value}


def is_told(value, word, many):
    return type(value) is tuple and len(value) == many and type(value[0]) is str and value[0] == word


def column(rows, at=0):
    return {name: row[at] for name, row in rows.items()}


def is_knot_paper(bodies, knot, value):
    for word in ("steady", "growing"):
        if is_told(value, word, 2):
            rows = rows_of(value[1], 1)
            if rows is None or tuple(rows) != knot or min(column(rows).values()) <= 0:
                return False
            loads = {name: load(bodies[name], column(rows)) for name in knot}
            if word == "steady":
                return all(loads[name] <= rows[name][0] for name in knot)
            return all(loads[name] > rows[name][0] for name in knot)
    return False


def layers_names(bodies, value, all_bodies=None):
    """The set of the procedures in the layers of a sure paper, or None if they are none.

    For an always paper with a list of the bodies of all fixed programs.
    """
    all_bodies = all_bodies or [bodies]
    if type(value) is not tuple:
        return None
    ahead = set()
    for layer in value:
        rows = rows_of(layer, 1)
        if not rows or not set(rows) <= set(bodies) - ahead or min(column(rows).values()) <= 0:
            return None
        for name, (weight,) in rows.items():
            if has_stay(bodies[name]) or not called(bodies[name]) <= ahead | set(rows):
                return None
            if not all(name in able(one) and load(one[name], column(rows)) <= weight for one in all_bodies):
                return None
        ahead |= set(rows)
    return ahead


def is_sure_paper(bodies, name, value):
    return is_told(value, "sure", 2) and name in (layers_names(bodies, value[1]) or ())


def is_unsure_paper(bodies, name, value):
    rows = rows_of(value[1], 1) if is_told(value, "unsure", 2) else None
    if rows is None or tuple(rows) != reach(bodies, name):
        return False
    values = column(rows)
    if not all(0 <= one <= 1 for one in values.values()) or values[name] == 1:
        return False
    return all(next_value(bodies[other], values) <= values[other] for other in rows)


def is_between_paper(bodies, value):
    if not is_told(value, "between", 3):
        return False
    sure, rows = layers_names(bodies, value[1]), rows_of(value[2], 2)
    if sure is None or rows is None or tuple(rows) != tuple(sorted(bodies)):
        return False
    for name, (low, high) in rows.items():
        if not 0 <= low <= high <= 1:
            return False
        if name in sure and low < 1 or name not in sure and high == 1 or name not in able(bodies) and high > 0:
            return False
    lows, highs = column(rows), column(rows, 1)
    return all(next_value(bodies[name], lows) >= lows[name] and next_value(bodies[name], highs) <= highs[name]
               for name in bodies)


def priced(bodies, name, prices):
    return tuple(one for one in reach(bodies, name)
                 if any(cost(bodies[other], prices) > 0 for other in reach(bodies, one)))


def is_finite_paper(bodies, name, prices, value):
    rows = rows_of(value[1], 2) if is_told(value, "finite", 2) else None
    if rows is None or tuple(rows) != priced(bodies, name, prices):
        return False
    means, weights = column(rows), column(rows, 1)
    for other, (mean, weight) in rows.items():
        if mean < 0 or mean != cost(bodies[other], prices) + load(bodies[other], means):
            return False
        if weight <= 0 or load(bodies[other], weights) >= weight:
            return False
    return True


def is_endless_paper(bodies, name, prices, value):
    rows = rows_of(value[1], 1) if is_told(value, "endless", 2) else None
    if not rows or not set(rows) <= set(priced(bodies, name, prices)):
        return False
    weights = column(rows)
    return all(weight > 0 and load(bodies[other], weights) >= weight for other, weight in weights.items())


# [14.2], [14.3]

def mean_and_spread(body, told, prices):
    """By a dict from names to pairs (mean, spread), in which procedures that are not priced need not stand."""
    parts = [of_statement(statement, told, prices) for statement in body]
    return sum((mean for mean, _ in parts), start=ZERO), sum((spread for _, spread in parts), start=ZERO)


def of_statement(statement, told, prices):
    if statement[0] == "note":
        return ONE * prices.get(statement[1], 0), ZERO
    if statement[0] == "call":
        return told.get(statement[1], (ZERO, ZERO))
    many = [(share, *mean_and_spread(body, told, prices)) for share, body in parts_of(statement)]
    mean = sum(share * mean for share, mean, _ in many)
    if statement[0] == "toss":
        return mean, sum(share * spread for share, _, spread in many) + sum(share * one ** 2 for share, one, _ in many) - mean ** 2
    rounds, one, spread = many[0]
    return mean, spread * rounds + one ** 2 * (rounds + rounds ** 2)


def is_spread_paper(bodies, name, prices, value):
    rows = rows_of(value[1], 3) if is_told(value, "spread", 2) else None
    if rows is None:
        return False
    finite = tuple((other, as_own(row[0]), as_own(row[2])) for other, row in rows.items())
    if not is_finite_paper(bodies, name, prices, ("finite", finite)):
        return False
    told = {other: (row[0], row[1]) for other, row in rows.items()}
    return all(mean_and_spread(bodies[other], told, prices)[1] == row[1] for other, row in rows.items())


# [15.1]

def dialled(body, path, branch, share):
    """The body with other weights, which are fractions, at the statement on this path."""
    at, *further = path
    statement = body[at]
    if further:
        inner = list(bodies_of(statement))
        inner[further[0]] = dialled(inner[further[0]], further[1:], branch, share)
        changed = with_bodies(statement, inner)
    elif statement[0] == "again":
        changed = ("again", 1 - share, share, statement[3])
    else:
        rest = sum(weight for number, (weight, _) in enumerate(statement[1:]) if number != branch)
        changed = ("toss",) + tuple(
            (share if number == branch else (1 - share) * weight / rest, part)
            for number, (weight, part) in enumerate(statement[1:]))
    return body[:at] + (changed,) + body[at + 1:]


def bodies_of(statement):
    return [part for _, part in parts_of(statement)]


def with_bodies(statement, inner):
    if statement[0] == "toss":
        return ("toss",) + tuple((weight, part) for (weight, _), part in zip(statement[1:], inner))
    return statement[:3] + tuple(inner) if statement[0] == "again" else ("choose",) + tuple(inner)


# [16.1], [16.2]

def choices(bodies):
    return [(name, path) for name in sorted(bodies) for path, part in all_parts(bodies[name])
            if type(part) is tuple and part[:1] == ("choose",)]


def fixed(bodies, plan):
    return {name: fixed_body(body, plan, name, ()) for name, body in bodies.items()}


def fixed_body(body, plan, name, path):
    found = []
    for number, statement in enumerate(body):
        at = path + (number,)
        inner = [fixed_body(part, plan, name, at + (one,)) for one, part in enumerate(bodies_of(statement))]
        if statement[0] == "choose":
            found += inner[plan[name, at]]
        else:
            found.append(with_bodies(statement, inner) if inner else statement)
    return tuple(found)


def all_plans(bodies):
    places = choices(bodies)
    many = [len(part_at(bodies, place)) - 1 for place in places]
    return [dict(zip(places, numbers)) for numbers in itertools.product(*map(range, many))]


def part_at(bodies, place):
    return dict(all_parts(bodies[place[0]]))[place[1]]


def is_always_paper(bodies, name, value):
    all_bodies = [fixed(bodies, plan) for plan in all_plans(bodies)]
    if is_told(value, "always", 2):
        names = layers_names(bodies, value[1], all_bodies)
        return names is not None and name in names
    if not is_told(value, "spoilt", 3) or type(value[1]) is not tuple:
        return False
    for number, plan in enumerate(all_plans(bodies)):
        # As texts, integers differ from fractions and from True.
        if repr(tuple(plan.items())) == repr(value[1]):
            return is_unsure_paper(all_bodies[number], name, ("unsure", value[2]))
    return False


# Values that are nearly papers

def bent(value, others=()):
    """The value with one part exchanged for another one, a part more or less, or parts exchanged."""
    yield from others
    if type(value) is tuple:
        yield list(value)
        yield (value,)
        yield value + value[-1:]
        yield value + ((),)
        yield value[::-1]
        for at, part in enumerate(value):
            yield value[:at] + value[at + 1:]
            yield value[:at] + (part,) + value[at:]
            for other in bent(part, others[:12]):
                yield value[:at] + (other,) + value[at + 1:]
    elif is_fraction(value):
        for less in (Fraction(1, 10 ** 30), Fraction(1, 3), 1):
            yield value - less
            yield value + less
        yield from (-value, value * 2, str(value), True, False, None, 0, 1, (value,), [value], {}, "x")
        yield from (Fraction(1), Fraction(0))
        if is_integer(value) or value.bottom == 1:
            yield Fraction(int(str(value)))
            yield int(str(value))
    elif type(value) is str:
        yield from ("x", "y", "z", "zz", "a", value.upper(), value + "x", "", " ", 1, None, True, (value,), [value])
