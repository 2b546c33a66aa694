"""Desks: at each of them a shape is changed."""

from shovefloors.arguments import check_cell, is_place
from shovefloors.errors import InvalidCell, TooGreat
from shovefloors.lattices import lattices_of
from shovefloors.limits import MOST_CELLS
from shovefloors.shapes import check_shape, shape_from
from shovefloors.trials import Moment, Trial, moment_before


class Desk:
    """A shape that is changed, cell by cell or as a whole; each change can be taken back."""

    def __init__(self, shape):
        check_shape(shape)
        self._now = Moment(shape, None)

    def __eq__(self, other):
        return self is other

    @property
    def shape(self):
        """The shape as it is now."""
        return self._now.held

    @property
    def changes(self):
        """How many changes can be taken back."""
        return self._now.number

    @property
    def lattices(self):
        """All lattices by which the shape fills as it is now, ascending."""
        return lattices_of(self._now.held)

    def _become(self, shape):
        self._now = Moment(shape, self._now)

    def put(self, cell):
        """Makes a cell one of the shape, too."""
        cells = self.shape.cells
        if not is_place(cell) or cell in cells:
            raise InvalidCell(cell)
        if len(cells) == MOST_CELLS:
            raise TooGreat(MOST_CELLS + 1)
        self._become(shape_from([*cells, cell]))

    def take(self, cell):
        """Makes a cell none of the shape any more."""
        check_cell(cell)
        cells = self.shape.cells
        if cell not in cells:
            raise InvalidCell(cell)
        if len(cells) == 1:
            raise TooGreat(0)
        self._become(shape_from([own for own in cells if own != cell]))

    def repeat(self, shoves):
        """Makes the shape that of all its copies, one for each of the shoves."""
        self._become(self.shape.summed(shoves))

    def undo(self):
        """Takes back the last change."""
        self._now = moment_before(self._now)

    def trial(self):
        """For a `with` statement, behind which the desk is as it was before."""
        return Trial(self)

    def tried(self, action):
        """What a function returns for the desk, which is as it was before when this is returned."""
        with self.trial():
            return action(self)
