"""Edits of books, and what books have behind them."""

from surelyends.errors import InvalidEdit
from surelyends.means.means import MAX_PRICE, mean_of
from surelyends.numbers.integers import is_between
from surelyends.papers.verdicts import sure_procedures
from surelyends.programs.parts import with_names
from surelyends.programs.programs import Program, is_body, is_name


class Content:
    """The program of a book, None without procedures, its prices, and its sure procedures; it never changes."""

    def __init__(self, whole, costs, certain):
        self.whole = whole
        self.costs = costs
        self.certain = certain


def no_content():
    """What a new book has."""
    return Content(None, {}, ())


def names_in_content(content):
    """The ascending tuple of the names of the procedures."""
    return () if content.whole is None else content.whole.names


def bodies_in_content(content):
    """A dict from the names of the procedures to their bodies."""
    return {} if content.whole is None else content.whole.bodies


def state_in(content, name):
    """The state of a procedure, or None if there is none of this name."""
    if name not in names_in_content(content):
        return None
    if name not in content.certain:
        return ("unsure",)
    mean = mean_of(content.whole, name, content.costs)
    return ("endless",) if mean is None else ("finite", mean)


def edited(content, edits):
    """What a book has behind these edits, made in order."""
    bodies = bodies_in_content(content)
    costs = content.costs
    for edit in edits:
        if not _is_edit(edit):
            raise InvalidEdit("not an edit")
        if edit[0] == "price":
            costs = _with_price(costs, edit)
        else:
            bodies = _with_edit(bodies, edit)
    if len(bodies) == 0:
        return Content(None, costs, ())
    program = Program.of(bodies)
    return Content(program, costs, sure_procedures(program))


def _is_edit(value):
    if not isinstance(value, tuple) or not 2 <= len(value) <= 3 or not is_name(value[1]):
        return False
    word, _, *more = value
    if not isinstance(word, str):
        return False
    if len(more) == 0:
        return word == "drop"
    if word == "set":
        return is_body(more[0])
    if word == "rename":
        return is_name(more[0])
    return word == "price" and is_between(more[0], 0, MAX_PRICE)


def _with_price(costs, edit):
    _, event, number = edit
    changed = {**costs, event: number}
    return {other: changed[other] for other in sorted(changed) if changed[other] != 0}


def _with_edit(bodies, edit):
    word, name, *more = edit
    if word == "set":
        return {**bodies, name: more[0]}
    if name not in bodies:
        raise InvalidEdit("there is no procedure of this name")
    if word == "drop":
        return {other: body for other, body in bodies.items() if other != name}
    if more[0] in bodies:
        raise InvalidEdit("there is a procedure of this name")
    mapping = {name: more[0]}
    return {mapping.get(other, other): with_names(body, mapping) for other, body in bodies.items()}
