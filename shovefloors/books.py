"""Books: shapes under names, and wishes that hold after each change."""

from shovefloors.arguments import is_int
from shovefloors.errors import Broken, InUse, InvalidDeeds, InvalidIndex, InvalidName, InvalidWish, UnknownName
from shovefloors.shapes import check_shape
from shovefloors.trials import Moment, Trial, moment_before
from shovefloors.wishes import is_true_of, is_wish

LETTERS = "abcdefghijklmnopqrstuvwxyz"
MOST_LETTERS = 8
# How many elements a deed has, its word being one of them.
DEEDS = {"put": 3, "drop": 2, "wish": 2, "lift": 2}


def is_name(value):
    """Whether a value is a name."""
    return (isinstance(value, str) and 1 <= len(value) <= MOST_LETTERS
            and all([letter in LETTERS for letter in value]))


def is_deed(value):
    """Whether a value has the form of a deed, whatever stands in it behind the word."""
    return (isinstance(value, tuple) and len(value) > 0 and isinstance(value[0], str)
            and DEEDS.get(value[0], 0) == len(value))


def check_deeds(deeds):
    """Raises InvalidDeeds with the index of the first value that is no deed."""
    for index, deed in enumerate(deeds):
        if not is_deed(deed):
            raise InvalidDeeds(index)


class Contents:
    """The shapes of a book by their names, and its wishes, at one time; neither of them is ever changed."""

    def __init__(self, by_name, asked):
        self.by_name = by_name
        self.asked = asked


class Book:
    """Shapes under names, and wishes about them; each change can be taken back."""

    def __init__(self):
        self._now = Moment(Contents({}, ()), None)

    def __eq__(self, other):
        return self is other

    def __len__(self):
        return len(self._now.held.by_name)

    def __contains__(self, value):
        return isinstance(value, str) and value in self._now.held.by_name

    def __getitem__(self, name):
        if name not in self:
            raise UnknownName(name)
        return self._now.held.by_name[name]

    # Without this Python would go through a book by asking for the names 0, 1 and so on.
    def __iter__(self):
        raise TypeError("a book is not gone through")

    def __setitem__(self, name, shape):
        if not is_name(name):
            raise InvalidName(name)
        check_shape(shape)
        held = self._now.held
        # Wishes about other names go on to hold.
        for index, wish in enumerate(held.asked):
            if wish[1] == name and not is_true_of(wish, shape):
                raise Broken(index)
        self._become({**held.by_name, name: shape}, held.asked)

    @property
    def names(self):
        """All names, ascending."""
        return tuple(sorted(self._now.held.by_name))

    @property
    def wishes(self):
        """All wishes, in their order."""
        return self._now.held.asked

    @property
    def changes(self):
        """How many changes can be taken back."""
        return self._now.number

    def _become(self, by_name, asked):
        self._now = Moment(Contents(by_name, asked), self._now)

    def drop(self, name):
        """Takes a name away."""
        if name not in self:
            raise UnknownName(name)
        held = self._now.held
        for index, wish in enumerate(held.asked):
            if wish[1] == name:
                raise InUse(index)
        by_name = held.by_name
        self._become({own: by_name[own] for own in by_name if own != name}, held.asked)

    def wish(self, wish):
        """Makes a wish, which holds from now on."""
        if not is_wish(wish):
            raise InvalidWish(wish)
        held = self._now.held
        if wish[1] not in self or not is_true_of(wish, held.by_name[wish[1]]):
            raise Broken(len(held.asked))
        self._become(held.by_name, (*held.asked, wish))

    def lift(self, index):
        """Takes a wish away."""
        held = self._now.held
        if not is_int(index) or not 0 <= index < len(held.asked):
            raise InvalidIndex(index)
        self._become(held.by_name, held.asked[:index] + held.asked[index + 1:])

    def undo(self):
        """Takes back the last change that has not been taken back."""
        self._now = moment_before(self._now)

    def _do(self, deed):
        word = deed[0]
        if word == "put":
            self[deed[1]] = deed[2]
        elif word == "drop":
            self.drop(deed[1])
        elif word == "wish":
            self.wish(deed[1])
        else:
            self.lift(deed[1])

    def do_all(self, *deeds, watch=None):
        """Makes several changes, or none if one of them fails; returns how many."""
        check_deeds(deeds)
        after = self._now
        try:
            for deed in deeds:
                self._do(deed)
                if watch is not None:
                    watch(self)
            after = self._now
        finally:
            self._now = after
        return len(deeds)

    def trial(self):
        """For a `with` statement, behind which the book is as it was before."""
        return Trial(self)

    def tried(self, action):
        """What a function returns for the book, which is as it was before when this is returned."""
        with self.trial():
            return action(self)
