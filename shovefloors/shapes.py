"""Shapes: some cells of the plane, wherever they lie."""

from shovefloors.arguments import check_cell, check_cells, check_shoves
from shovefloors.errors import InvalidText, NotAShape, TooGreat
from shovefloors.limits import MOST_CELLS


def from_zero(cells):
    """Some cells, brought so far that their least column and line are 0, ascending."""
    left = min([x for (x, y) in cells])
    top = min([y for (x, y) in cells])
    return tuple(sorted([(x - left, y - top) for (x, y) in cells]))


def marked_cells(text):
    """The cells that are marked in a text, by their columns and lines there."""
    # Lines without a mark are passed over, since the text of a shape that lies far apart is very long.
    rows = [(y, line) for y, line in enumerate(text.split("\n")) if "#" in line]
    return [(x, y) for (y, line) in rows for x, sign in enumerate(line) if sign == "#"]


def cells_beside(cell):
    """The four cells that have an edge in common with a cell."""
    x, y = cell
    return ((x - 1, y), (x, y - 1), (x, y + 1), (x + 1, y))


def is_joined(cells):
    """Whether one can come from the first of some cells to all others, always by cells that are beside one another."""
    free = {cell: True for cell in cells}
    reached = {cells[0]: True}
    queue = [cells[0]]
    while queue:
        here = queue.pop()
        for cell in cells_beside(here):
            if cell in free and cell not in reached:
                reached[cell] = True
                queue.append(cell)
    return len(reached) == len(free)


class Shape:
    """One to twenty-four different cells; shoved as a whole they are the same shape."""

    def __init__(self, cells):
        check_cells(cells)
        self._cells = from_zero(cells)

    @staticmethod
    def read(text):
        """The shape with this text."""
        shape = shape_with(text)
        if shape is None:
            raise InvalidText(text)
        return shape

    @property
    def cells(self):
        """The cells, ascending, the least column and line being 0."""
        return self._cells

    @property
    def wide(self):
        """How many columns there are from the first one to the last one."""
        return max([x for (x, y) in self._cells]) + 1

    @property
    def high(self):
        """How many lines there are from the first one to the last one."""
        return max([y for (x, y) in self._cells]) + 1

    @property
    def is_piece(self):
        """Whether the shape is in one piece."""
        return is_joined(self._cells)

    @property
    def is_whole(self):
        """Whether the shape is in one piece, and what is around it likewise."""
        # Only a shape in one piece is small enough for looking at all that is around it.
        return self.is_piece and is_joined(self._free_around())

    def _free_around(self):
        """The cells that are not of the shape, as far as one column and line around it."""
        wide = self.wide
        high = self.high
        near = [(x, y) for x in range(-1, wide + 1) for y in range(-1, high + 1)]
        return [cell for cell in near if cell not in self._cells]

    def __len__(self):
        return len(self._cells)

    def __eq__(self, other):
        return isinstance(other, Shape) and self._cells == other._cells

    def __str__(self):
        empty = "." * self.wide
        rows = [empty for _ in range(self.high)]
        for x, y in self._cells:
            rows[y] = rows[y][:x] + "#" + rows[y][x + 1:]
        return "\n".join(rows)

    def __repr__(self):
        return f"Shape of {len(self._cells)} cells"

    def turned(self):
        """The shape turned by half."""
        return shape_from([(-x, -y) for (x, y) in self._cells])

    def quarter(self):
        """The shape turned by a quarter: its first line becomes its last column."""
        return shape_from([(-y, x) for (x, y) in self._cells])

    def flipped(self):
        """The shape with left and right exchanged."""
        return shape_from([(-x, y) for (x, y) in self._cells])

    def holds(self, cell):
        """Whether a cell is one of its cells."""
        check_cell(cell)
        return cell in self._cells

    def summed(self, shoves):
        """The shape of all its copies, one for each of the shoves."""
        check_shoves(shoves)
        many = len(shoves) * len(self._cells)
        if many > MOST_CELLS:
            raise TooGreat(many)
        found = [(x + a, y + b) for (a, b) in shoves for (x, y) in self._cells]
        if len(set(found)) < many:
            raise TooGreat(0)
        return shape_from(found)


def shape_from(cells):
    """The shape of one to twenty-four different cells, however far from 0 and from one another they are."""
    # What is made of shapes, or read, may reach beyond the numbers that the class takes from its callers.
    shape = Shape(((0, 0),))
    shape._cells = from_zero(cells)
    return shape


def shape_with(text):
    """The shape with this text, None for what is no text of one."""
    if not isinstance(text, str) or not 1 <= text.count("#") <= MOST_CELLS:
        return None
    shape = shape_from(marked_cells(text))
    # All else that may be wrong in a text makes it unlike the one that the shape has.
    if str(shape) != text:
        return None
    return shape


def check_shape(shape):
    """Raises NotAShape for what is no Shape."""
    if not isinstance(shape, Shape):
        raise NotAShape(shape)


def same_kind(shape, other):
    """Whether the first shape can be made the second one by quarter turns and flips."""
    check_shape(shape)
    check_shape(other)
    turned = shape
    for _ in range(4):
        turned = turned.quarter()
        if turned == other or turned.flipped() == other:
            return True
    return False
