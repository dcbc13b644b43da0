"""Commands of the shell: which lines are some, and the answers to them."""

from surelyends.change.stops import least_stops
from surelyends.errors import InvalidCommand, UnknownName
from surelyends.means.endless import spread_of
from surelyends.numbers.fractions import Fraction
from surelyends.numbers.integers import is_between
from surelyends.papers.bounds import bounds
from surelyends.papers.verdicts import paper_of
from surelyends.programs.programs import is_name
from surelyends.programs.texts import DIGITS, line_text, read_body
from surelyends.text.formats import format_fraction, format_paper

# What stands behind the words of commands: names, and numbers from the one to the other; `set` is told apart.
FORMS = {
    "drop": ("name",),
    "rename": ("name", "name"),
    "price": ("name", (0, 99)),
    "undo": ((0, 9999),),
    "redo": ((0, 9999),),
    "watch": ("name",),
    "unwatch": ("name",),
    "names": (),
    "show": ("name",),
    "state": ("name",),
    "spread": ("name",),
    "chance": ("name", (1, 40)),
    "paper": ("name",),
    "stops": ("name",),
}
CHANGES = ("set", "drop", "rename", "price", "undo", "redo", "watch", "unwatch")


def words_of(line):
    """The list of the words of a command, of which each number is an integer."""
    if not isinstance(line, str) or not all([" " <= sign <= "~" for sign in line]):
        raise InvalidCommand("not a line of signs")
    word, *rest = line.split(" ")
    if "" in rest:
        raise InvalidCommand("two blanks together, or a blank at the end")
    if word == "set":
        if len(rest) == 0 or not is_name(rest[0]):
            raise InvalidCommand("no name is set")
        return ["set", rest[0], " ".join(rest[1:])]
    if word not in FORMS or len(rest) != len(FORMS[word]):
        raise InvalidCommand("no such command")
    return [word] + [_read(text, form) for text, form in zip(rest, FORMS[word])]


def _read(text, form):
    if form == "name":
        if not is_name(text):
            raise InvalidCommand("a name is expected")
        return text
    least, greatest = form
    # Ahead of Python's own reading, which takes far more, and refuses very long numbers.
    if len(text) > len(str(greatest)) or not all([sign in DIGITS for sign in text]) or str(int(text)) != text:
        raise InvalidCommand("a number is expected")
    if not is_between(int(text), least, greatest):
        raise InvalidCommand("the number is beyond its limits")
    return int(text)


def change(book, words):
    """Make a change that a command tells, and return the answer."""
    word, *told = words
    if word == "watch":
        return str(book.watch(told[0]))
    if word == "unwatch":
        return str(book.unwatch(told[0]))
    if word == "undo":
        book.undo(many=told[0])
    elif word == "redo":
        book.redo(many=told[0])
    elif word == "set":
        book.do(("set", told[0], read_body(told[1])))
    else:
        book.do((word, *told))
    return _listed([_news_text(name, before, behind) for name, before, behind in book.news()], "ok")


def _news_text(name, before, behind):
    return f"{name}: {_state_text(before)} to {_state_text(behind)}"


def _listed(texts, otherwise):
    return otherwise if len(texts) == 0 else ", ".join(texts)


def _state_text(state):
    if state is None:
        return "none"
    if state[0] == "finite":
        return f"finite {format_fraction(state[1])}"
    return state[0]


def answer(book, words):
    """The answer to a command that changes nothing."""
    word, *told = words
    if word == "names":
        return "none" if len(book) == 0 else " ".join(book.names)
    name = told[0]
    if name not in book:
        raise UnknownName(name)
    program = book.as_program()
    if word == "show":
        return line_text(program, name)
    if word == "state":
        return _state_text(book.state(name))
    if word == "spread":
        return format_fraction(spread_of(program, name, book.prices))
    if word == "chance":
        low, high = bounds(program, name, Fraction(1, 10).power(told[1]))
        return f"{format_fraction(low)} to {format_fraction(high)}"
    if word == "paper":
        return format_paper(paper_of(program, name))
    return _listed([_stop_text(names) for names in least_stops(program, name)], "none")


def _stop_text(names):
    return "-" if len(names) == 0 else " + ".join(names)
