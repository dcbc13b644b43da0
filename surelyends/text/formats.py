"""Texts of fractions, of values, and of papers, and what they are the texts of."""

from surelyends.chances.tables import is_headed, is_table, names_in
from surelyends.errors import InvalidOperation, InvalidValues, ParseError
from surelyends.numbers.fractions import Fraction, as_fraction, is_fraction
from surelyends.programs.programs import is_name
from surelyends.programs.texts import DIGITS

MAX_DIGITS = 4000

NOTHING = "none"
# How many fractions a row of each paper has.
WIDTHS = {"sure": 1, "unsure": 1, "endless": 1, "finite": 2, "between": 2}


def format_fraction(fraction):
    """The text of a fraction."""
    return str(as_fraction(fraction))


def parse_fraction(text):
    """The Fraction with this text."""
    if not isinstance(text, str):
        raise ParseError("not a string")
    top, slash, bottom = text.partition("/")
    digits = top[1:] if top.startswith("-") else top
    if not _is_number(digits) or (slash != "" and not _is_number(bottom)):
        raise ParseError("not an integer, or two of them")
    below = 1 if slash == "" else int(bottom)
    if below == 0 or str(Fraction(int(top), below)) != text:
        raise ParseError("not in the least form")
    return Fraction(int(top), below)


def _is_number(text):
    # Longer ones stand in no text, and Python refuses to read them.
    return 1 <= len(text) <= MAX_DIGITS and all([sign in DIGITS for sign in text])


def format_values(rows):
    """The text of a dict from names to fractions."""
    if not isinstance(rows, dict) or not all([is_name(name) and is_fraction(one) for name, one in rows.items()]):
        raise InvalidValues("not a dict from names to fractions")
    return _rows_text(tuple([(name, rows[name]) for name in sorted(rows)]))


def parse_values(text):
    """The dict from names to Fractions with this text."""
    if not isinstance(text, str):
        raise ParseError("not a string")
    rows = _read_rows(text)
    if not _are_rows(rows, 1):
        raise ParseError("not rows of a name and a fraction each, in order")
    return {name: one for name, one in rows}


def is_shown(value):
    """Whether the value is a shown paper."""
    if is_headed(value, "between", 3):
        return _are_layers(value[1]) and _are_rows(value[2], WIDTHS["between"])
    if is_headed(value, "sure", 2):
        return _are_layers(value[1])
    if not isinstance(value, tuple) or len(value) != 2:
        return False
    return value[0] in ("unsure", "endless", "finite") and _are_rows(value[1], WIDTHS[value[0]])


def _are_rows(value, width):
    return is_table(value, width) and all([is_name(name) for name in names_in(value)])


def _are_layers(value):
    if not isinstance(value, tuple) or not all([_are_rows(layer, 1) and len(layer) > 0 for layer in value]):
        return False
    names = [name for layer in value for name in names_in(layer)]
    return len(set(names)) == len(names)


def format_paper(value):
    """The text of a shown paper."""
    if not is_shown(value):
        raise InvalidOperation("not a shown paper")
    word = value[0]
    if word == "sure":
        return f"{word}: {_layers_text(value[1])}"
    if word == "between":
        return f"{word}: {_layers_text(value[1])}; {_rows_text(value[2])}"
    return f"{word}: {_rows_text(value[1])}"


def _layers_text(layers):
    if len(layers) == 0:
        return NOTHING
    return " | ".join([_rows_text(layer) for layer in layers])


def _rows_text(rows):
    if len(rows) == 0:
        return NOTHING
    return ", ".join([_row_text(row) for row in rows])


def _row_text(row):
    return " ".join([row[0]] + [format_fraction(one) for one in row[1:]])


def parse_paper(text):
    """The shown paper with this text."""
    if not isinstance(text, str):
        raise ParseError("not a string")
    word, _, rest = text.partition(": ")
    paper = (word, *_read_parts(word, rest))
    if not is_shown(paper):
        raise ParseError("no paper that is shown so")
    return paper


def _read_parts(word, text):
    if word == "sure":
        return [_read_layers(text)]
    if word == "between":
        layers, _, rows = text.partition("; ")
        return [_read_layers(layers), _read_rows(rows)]
    return [_read_rows(text)]


def _read_layers(text):
    if text == NOTHING:
        return ()
    return tuple([_read_rows(layer) for layer in text.split(" | ")])


def _read_rows(text):
    if text == NOTHING:
        return ()
    return tuple([_read_row(row) for row in text.split(", ")])


def _read_row(text):
    name, *fractions = text.split(" ")
    return (name, *[parse_fraction(one) for one in fractions])
