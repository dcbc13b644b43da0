"""Texts of bodies and programs."""

from surelyends.errors import InvalidProgram, ParseError
from surelyends.programs.parts import bodies_in, weights_of
from surelyends.programs.programs import LETTERS, MAX_DEPTH, Program, check_free, check_name, is_body

DIGITS = "0123456789"
SIGNS = "!~[]{}<>|:/"
# The empty word stands behind the last one.
ENDS_OF_BODIES = ("", "|", "]", "}", ">")


def body_text(body):
    """The text of a body."""
    if not is_body(body):
        raise InvalidProgram("not a body")
    return _text_of(body)


def program_text(free):
    """The text of a program."""
    check_free(free)
    return "\n".join([line_text(free, name) for name in free.names])


def line_text(free, name):
    """The line of one procedure in the text of a program."""
    check_free(free)
    check_name(free, name)
    return _headed(f"{name} =", _text_of(free[name]))


def _text_of(body):
    return " ".join([_statement_text(statement) for statement in body])


def _statement_text(statement):
    word = statement[0]
    if word == "stay":
        return "~"
    if word == "note":
        return f"!{statement[1]}"
    if word == "call":
        return statement[1]
    texts = [_text_of(body) for body in bodies_in(statement)]
    if word == "choose":
        return "<" + " | ".join(texts) + ">"
    weights = weights_of(statement)
    if word == "again":
        return "{" + _headed(f"{weights[0]}/{weights[1]}:", texts[0]) + "}"
    return "[" + " | ".join([_headed(f"{weight}:", text) for weight, text in zip(weights, texts)]) + "]"


def _headed(head, text):
    return head if text == "" else f"{head} {text}"


def read_body(text):
    """The body with a text."""
    body = _read_roughly(text)
    # The reader passes over blanks and zeros, so only this comparison tells that the text is the right one.
    if not is_body(body) or _text_of(body) != text:
        raise ParseError("not the text of a body")
    return body


def read_program(text):
    """The program with a text."""
    if not isinstance(text, str):
        raise ParseError("not a string")
    bodies = {}
    for line in text.split("\n"):
        name, _, rest = line.partition(" =")
        bodies[name] = _read_roughly(rest)
    try:
        program = Program.of(bodies)
    except InvalidProgram:
        raise ParseError("not the text of a program") from None
    if program_text(program) != text:
        raise ParseError("not the text of a program")
    return program


def _read_roughly(text):
    if not isinstance(text, str):
        raise ParseError("not a string")
    reader = Reader(_words_of(text))
    body = reader.read_statements(MAX_DEPTH)
    reader.expect("")
    return body


def _words_of(text):
    words = []
    at = 0
    while at < len(text):
        end = _end_of_word(text, at)
        word = text[at:end]
        if word in SIGNS or word[0] in LETTERS or word[0] in DIGITS:
            words.append(word)
        elif word != " ":
            raise ParseError("a sign that no text has")
        at = end
    return words


def _end_of_word(text, at):
    end = at + 1
    for letters in (LETTERS, DIGITS):
        if text[at] in letters:
            while end < len(text) and text[end] in letters:
                end += 1
    return end


class Reader:
    """Reads statements from words, one after another, without regard to numbers of parts."""

    def __init__(self, words):
        self.words = words
        self.at = 0

    def coming(self):
        """The word that comes next, or the empty one behind the last."""
        return self.words[self.at] if self.at < len(self.words) else ""

    def taken(self):
        """The word that comes next, which is passed."""
        word = self.coming()
        self.at += 1
        return word

    def expect(self, word):
        """Pass this word."""
        if self.taken() != word:
            raise ParseError("another word is expected")

    def read_weight(self):
        """Pass a weight."""
        word = self.taken()
        # A longer number is no weight, and Python refuses to read one of some thousand digits.
        if not 1 <= len(word) <= 2 or word[0] not in DIGITS:
            raise ParseError("a weight is expected")
        return int(word)

    def read_name(self):
        """Pass a name."""
        word = self.taken()
        if word == "" or word[0] not in LETTERS:
            raise ParseError("a name is expected")
        return word

    def read_statements(self, depth):
        """Pass a body that is nested at most so deep."""
        found = []
        while self.coming() not in ENDS_OF_BODIES:
            found.append(self.read_statement(depth))
        return tuple(found)

    def read_statement(self, depth):
        """Pass a statement."""
        word = self.coming()
        if word == "~":
            self.expect("~")
            return ("stay",)
        if word == "!":
            self.expect("!")
            return ("note", self.read_name())
        if word in ("[", "{", "<"):
            if depth == 0:
                raise ParseError("nested too deep")
            return self.read_nesting(depth - 1)
        return ("call", self.read_name())

    def read_nesting(self, depth):
        """Pass a toss, a repeat or a choice, with bodies that are nested at most so deep."""
        word = self.taken()
        if word == "{":
            stop = self.read_weight()
            self.expect("/")
            go = self.read_weight()
            self.expect(":")
            body = self.read_statements(depth)
            self.expect("}")
            return ("again", stop, go, body)
        if word == "[":
            return ("toss",) + tuple(self.read_several("]", depth))
        return ("choose",) + tuple(self.read_several(">", depth))

    def read_several(self, last, depth):
        """Pass branches or bodies with the signs between them, and the last sign."""
        found = [self.read_one(last, depth)]
        while self.coming() == "|":
            self.expect("|")
            found.append(self.read_one(last, depth))
        self.expect(last)
        return found

    def read_one(self, last, depth):
        """Pass a branch or a body."""
        if last == ">":
            return self.read_statements(depth)
        weight = self.read_weight()
        self.expect(":")
        return (weight, self.read_statements(depth))
