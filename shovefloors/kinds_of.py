"""All whole shapes with some number of cells, and which of them fill the plane."""

from shovefloors.arguments import check_number
from shovefloors.lattices import fills
from shovefloors.shapes import cells_beside, from_zero, shape_from

MOST_IN_ALL = 6


def grown(cells):
    """The cells of all shapes that have one cell more than some cells, beside one of them."""
    found = [cell for own in cells for cell in cells_beside(own) if cell not in cells]
    return [from_zero([*cells, cell]) for cell in found]


def pieces(many):
    """The cells of all shapes in one piece that have so many, ascending."""
    # Each piece has a cell without which it still is one, so growing comes to all of them.
    found = {((0, 0),): True}
    for _ in range(many - 1):
        found = {more: True for cells in found for more in grown(cells)}
    return sorted(found)


def whole_shapes(many):
    """All whole shapes with so many cells, ascending by their cells."""
    check_number(many, 1, MOST_IN_ALL)
    return tuple([shape for shape in [shape_from(cells) for cells in pieces(many)] if shape.is_whole])


def fillers(many):
    """Those whole shapes with so many cells that fill by some lattice."""
    return tuple([shape for shape in whole_shapes(many) if fills(shape)])


def stuck_shapes(many):
    """Those whole shapes with so many cells that fill by no lattice."""
    return tuple([shape for shape in whole_shapes(many) if not fills(shape)])
