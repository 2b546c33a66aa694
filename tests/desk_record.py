"""What a desk should hold, told by an own list of cells."""

import itertools

from shovefloors.errors import InvalidCell, NothingToUndo, TooGreat
from tests.support import told_anew


class Record:
    """Lists of cells, the last one being that of now."""

    def __init__(self, cells):
        self.rows = [cells]

    def cells(self):
        return self.rows[-1]

    def become(self, cells):
        self.rows.append(told_anew(cells))

    def error_of(self, word, value):
        """The class of the error that a change should raise, None if it should be done, and what it was made with."""
        cells = self.cells()
        if word == "put":
            if value in cells or max(abs(value[0]), abs(value[1])) > 1000:
                return InvalidCell, value
            return (TooGreat, 25) if len(cells) == 24 else (None, None)
        if word == "take":
            if value not in cells:
                return InvalidCell, value
            return (TooGreat, 0) if len(cells) == 1 else (None, None)
        if word == "repeat":
            if len(value) * len(cells) > 24:
                return TooGreat, len(value) * len(cells)
            brought = {(x + a, y + b) for x, y in cells for a, b in value}
            return (None, None) if len(brought) == len(value) * len(cells) else (TooGreat, 0)
        return (None, None) if len(self.rows) > 1 else (NothingToUndo, None)

    def do(self, word, value):
        if word == "put":
            self.become([*self.cells(), value])
        elif word == "take":
            self.become([cell for cell in self.cells() if cell != value])
        elif word == "repeat":
            self.become([(x + a, y + b) for x, y in self.cells() for a, b in value])
        else:
            self.rows.pop()


def any_change(generator, cells):
    """A change that may be right or wrong."""
    word = generator.choice(["put"] * 5 + ["take"] * 4 + ["repeat", "undo", "undo"])
    if word == "undo":
        return word, None
    if word == "repeat":
        near = list(itertools.product(range(-3, 4), range(-3, 4)))
        return word, tuple(generator.sample(near, generator.choice([1, 1, 2, 2, 3])))
    if word == "take" and generator.random() < 0.8:
        return word, generator.choice(cells)
    far = generator.choice([0, 0, 0, 0, 990])
    return word, (generator.randrange(-3, 8) + far, generator.randrange(-3, 6) - far)
