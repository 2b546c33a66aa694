"""Guesses: which shapes a lattice may belong to."""

from shovefloors.arguments import check_cells, check_lattice
from shovefloors.errors import InvalidLattice, InvalidShapes
from shovefloors.lattices import holds_each_once, rest_of
from shovefloors.limits import MOST_CELLS, MOST_SHAPES
from shovefloors.shapes import Shape


def check_shapes(shapes):
    """Raises InvalidShapes for what is no tuple of shapes, or has too many."""
    if not isinstance(shapes, tuple):
        raise InvalidShapes(None)
    for index, shape in enumerate(shapes):
        if index >= MOST_SHAPES or not isinstance(shape, Shape):
            raise InvalidShapes(index)


def fitting(shapes, lattice):
    """The indexes of those shapes that fill by a lattice, ascending."""
    check_shapes(shapes)
    check_lattice(lattice)
    return tuple([index for index, shape in enumerate(shapes) if holds_each_once(lattice, shape.cells)])


def shapes_by(lattice, cells):
    """How many shapes that fill by a lattice can be chosen of some cells."""
    check_lattice(lattice)
    wide, _, high = lattice
    if wide * high > MOST_CELLS:
        raise InvalidLattice(lattice)
    check_cells(cells)
    with_rest = {}
    for cell in cells:
        found = rest_of(lattice, cell)
        with_rest[found] = with_rest.get(found, 0) + 1
    # One cell is chosen for each rest, whatever is chosen for the others.
    if len(with_rest) < wide * high:
        return 0
    many = 1
    for count in with_rest.values():
        many *= count
    return many
