"""Blocks behind which an object is as ahead of them.

All that such an object knows is its moment, which never changes; so it goes back by going to another moment.
"""


class Kept:
    """The moment at which a block was entered, and what was kept by the same trial before."""

    def __init__(self, moment, before):
        self.moment = moment
        self.before = before


class Trial:
    """A block behind which a tosser or a book is as ahead of it; it can be entered again inside."""

    def __init__(self, tried):
        self.tried = tried
        self.kept = None

    def __enter__(self):
        self.kept = Kept(self.tried._moment, self.kept)
        return self.tried

    def __exit__(self, kind, value, trace):
        self.tried._moment = self.kept.moment
        self.kept = self.kept.before
