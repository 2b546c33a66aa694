"""What can be taken back: the moments of a desk or a book, and trials, behind which all is as it was."""

from shovefloors.errors import NothingToUndo


class Moment:
    """What is held at one time, and the moment before the change that led there; it never changes."""

    def __init__(self, held, before):
        self.held = held
        self.before = before
        self.number = 0
        if before is not None:
            self.number = before.number + 1


class Kept:
    """A moment to which a trial comes back, and what the same trial has kept further out."""

    def __init__(self, moment, outer):
        self.moment = moment
        self.outer = outer


class Trial:
    """For a `with` statement: when its rows end, a desk or a book is as it was when they began."""

    def __init__(self, owner):
        self._owner = owner
        self._kept = None

    def __eq__(self, other):
        return self is other

    def __enter__(self):
        self._kept = Kept(self._owner._now, self._kept)
        return self._owner

    def __exit__(self, kind, value, trace):
        owner = self._owner
        owner._now = self._kept.moment
        self._kept = self._kept.outer


def moment_before(moment):
    """The moment before another one; NothingToUndo if there is none."""
    if moment.before is None:
        raise NothingToUndo()
    return moment.before
