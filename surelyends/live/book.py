"""A book of procedures, which is edited step by step."""

from surelyends.errors import InvalidEdit, InvalidNumber, InvalidOperation, NothingToUndo, UnknownName
from surelyends.live.edits import bodies_in_content, edited, names_in_content, no_content, state_in
from surelyends.numbers.integers import is_at_least
from surelyends.programs.programs import is_name
from surelyends.trials import Trial


class Leaf:
    """All that a book knows: its contents behind each step, also those undone, and the number of the present one.

    Then the content ahead of the last call that makes, undoes or redoes steps, and the watched names. It never changes.
    """

    def __init__(self, line, at, past, seen):
        self.line = line
        self.at = at
        self.past = past
        self.seen = seen


class Book:
    """Procedures, which together are a closed program, and prices."""

    def __init__(self):
        first = no_content()
        self._moment = Leaf((first,), 0, first, ())

    @property
    def names(self):
        return names_in_content(_present(self._moment))

    @property
    def prices(self):
        return dict(_present(self._moment).costs)

    @property
    def steps(self):
        return self._moment.at

    @property
    def watched(self):
        return self._moment.seen

    def do(self, *edits):
        """Make edits, as one step."""
        return self.do_all(edits)

    def do_all(self, edits):
        """Make the edits of a tuple, as one step."""
        if not isinstance(edits, tuple):
            raise InvalidEdit("the edits are no tuple")
        leaf = self._moment
        if len(edits) == 0:
            return self._go_to(leaf.line, leaf.at)
        content = edited(_present(leaf), edits)
        return self._go_to(leaf.line[:leaf.at + 1] + (content,), leaf.at + 1)

    def undo(self, *, many=1):
        """Undo the last steps."""
        leaf = self._moment
        if not is_at_least(many, 0):
            raise InvalidNumber(many)
        if many > leaf.at:
            raise NothingToUndo(many)
        return self._go_to(leaf.line, leaf.at - many)

    def redo(self, *, many=1):
        """Make the last undone steps again."""
        leaf = self._moment
        if not is_at_least(many, 0):
            raise InvalidNumber(many)
        if many > len(leaf.line) - 1 - leaf.at:
            raise NothingToUndo(many)
        return self._go_to(leaf.line, leaf.at + many)

    def _go_to(self, line, at):
        leaf = self._moment
        self._moment = Leaf(line, at, _present(leaf), leaf.seen)
        return self.steps

    def as_program(self):
        """The program of all procedures."""
        content = _present(self._moment)
        if content.whole is None:
            raise InvalidOperation("there are no procedures")
        return content.whole

    def state(self, name):
        """The state of a procedure."""
        if name not in self:
            raise UnknownName(name)
        return state_in(_present(self._moment), name)

    def states(self):
        """A dict from the names of all procedures to their states."""
        content = _present(self._moment)
        return {name: state_in(content, name) for name in names_in_content(content)}

    def watch(self, name):
        """Watch a name, whether it is there or not, and return how many are watched."""
        if not is_name(name):
            raise InvalidOperation("not a name")
        return self._watch(tuple(sorted(set(self.watched + (name,)))))

    def unwatch(self, name):
        """Watch a name no longer, and return how many are watched."""
        if name not in self.watched:
            raise InvalidOperation("not a name that is watched")
        return self._watch(tuple([other for other in self.watched if other != name]))

    def _watch(self, names):
        leaf = self._moment
        self._moment = Leaf(leaf.line, leaf.at, leaf.past, names)
        return len(names)

    def news(self):
        """A generator of triples (name, state before, state behind), by the last call of `do` to `redo`."""
        leaf = self._moment
        for name in leaf.seen:
            before = state_in(leaf.past, name)
            behind = state_in(_present(leaf), name)
            if before != behind:
                yield (name, before, behind)

    def trial(self):
        """A block behind which this book is as ahead of it."""
        return Trial(self)

    def attempt(self, action):
        """What an action returns for this book, which is then as before."""
        with self.trial() as same:
            return action(same)

    def twin(self):
        """An independent book in the same state."""
        made = Book()
        made._moment = self._moment
        return made

    def __getitem__(self, at):
        if at not in self:
            raise UnknownName(at)
        return bodies_in_content(_present(self._moment))[at]

    def __contains__(self, value):
        return value in self.names

    def __iter__(self):
        raise TypeError("a book cannot be iterated over")

    def __len__(self):
        return len(self.names)

    def __eq__(self, other):
        if not isinstance(other, Book):
            return False
        mine = _present(self._moment)
        others = _present(other._moment)
        return bodies_in_content(mine) == bodies_in_content(others) and mine.costs == others.costs

    def __str__(self):
        return f"book of {len(self)} procedures, {len(_present(self._moment).certain)} sure"


def _present(leaf):
    return leaf.line[leaf.at]
