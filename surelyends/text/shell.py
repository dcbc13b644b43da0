"""A shell that works on a book by lines of text."""

from surelyends.errors import InvalidOperation
from surelyends.live.book import Book
from surelyends.text.commands import CHANGES, answer, change, words_of


class Shell:
    """Does commands on a book, and keeps the lines of those that change it."""

    def __init__(self, book=None):
        if book is not None and not isinstance(book, Book):
            raise InvalidOperation("not a book")
        self._book = Book() if book is None else book
        self._lines = ()

    @property
    def log(self):
        return self._lines

    @property
    def names(self):
        return self._book.names

    def run(self, line):
        """Do a command, and return its answer."""
        words = words_of(line)
        if words[0] not in CHANGES:
            return answer(self._book, words)
        told = change(self._book, words)
        self._lines = self._lines + (line,)
        return told

    def __call__(self, line):
        return self.run(line)

    def run_all(self, lines):
        """A generator of the answers to the lines of a tuple."""
        if not isinstance(lines, tuple):
            raise InvalidOperation("the lines are no tuple")
        for line in lines:
            yield self.run(line)

    def shown(self):
        """A twin of the book."""
        return self._book.twin()

    def __len__(self):
        return len(self._lines)

    def __str__(self):
        return f"shell of {len(self._book)} procedures, {len(self._lines)} lines"
