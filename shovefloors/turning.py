"""Floors in which every second copy of a shape is turned by half."""

from shovefloors.arguments import check_cell, is_ints, is_lattice
from shovefloors.errors import InvalidLattice, TooGreat
from shovefloors.lattices import holder, holds_each_once, lattices_with
from shovefloors.shapes import check_shape

MOST_TO_TURN = 12


def both_cells(shape, floor):
    """The cells of a shape, and behind them those of its half turn, in the order of the cells that they were."""
    c, d = floor[3:]
    return list(shape.cells) + [(c - x, d - y) for (x, y) in shape.cells]


def is_floor(shape, floor):
    """Whether a lattice with the numbers of a half turn makes a turned floor of a shape."""
    return holds_each_once(floor[:3], both_cells(shape, floor))


def has_form(value):
    """Whether a value is a lattice with the numbers of a half turn."""
    return (is_ints(value, 5) and is_lattice(value[:3]) and 0 <= value[3] < value[0]
            and 0 <= value[4] < value[2])


def turned_floors(shape):
    """All turned floors of a shape, ascending."""
    check_shape(shape)
    if len(shape) > MOST_TO_TURN:
        raise TooGreat(len(shape))
    found = [(wide, slip, high, c, d) for (wide, slip, high) in lattices_with(2 * len(shape))
             for c in range(wide) for d in range(high)]
    return tuple([floor for floor in found if is_floor(shape, floor)])


def is_turned_floor(shape, floor):
    """Whether a value is a turned floor of a shape."""
    check_shape(shape)
    return has_form(floor) and is_floor(shape, floor)


def floor_copy(shape, floor, cell):
    """The index of the cell whose copy a cell is in a turned floor, whether the copy is turned, and its shove."""
    if not is_turned_floor(shape, floor):
        raise InvalidLattice(floor)
    check_cell(cell)
    index, shove = holder(floor[:3], both_cells(shape, floor), cell)
    return (index % len(shape), index >= len(shape), shove)
