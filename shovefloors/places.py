"""Places: which copy of a shape holds a cell of the plane, and which copies lie beside one another."""

from shovefloors.arguments import check_cell, check_lattice, check_number, is_ints
from shovefloors.errors import InvalidCell, InvalidCells
from shovefloors.lattices import check_filled, holder, rest_of
from shovefloors.shapes import cells_beside, check_shape

MOST_HUES = 24
MOST_IN_LINE = 100


def neighbours_of(shape, lattice):
    """All shoves that are neighbours of (0, 0), ascending, for a shape that fills by a lattice."""
    cells = [cell for own in shape.cells for cell in cells_beside(own)]
    shoves = [holder(lattice, shape.cells, cell)[1] for cell in cells]
    return sorted(set([shove for shove in shoves if shove != (0, 0)]))


def times_taken(lattice, shove):
    """How many times the shoves (w, 0) and (s, h) of a lattice are taken for one of its shoves."""
    wide, slip, high = lattice
    second = shove[1] // high
    return ((shove[0] - second * slip) // wide, second)


def steps_from(shape, lattice):
    """Of all neighbours of (0, 0) how many times the shoves of the lattice are taken for each."""
    return [times_taken(lattice, shove) for shove in neighbours_of(shape, lattice)]


def tell_apart(hues, steps):
    """Whether hues are others behind each of some steps."""
    number, across, along = hues
    # The hues of two copies differ by those of the step between them, so looking at one copy is enough.
    for first, second in steps:
        if (first * across + second * along) % number == 0:
            return False
    return True


def any_tell_apart(number, steps):
    """Whether there are hues of so many that are others behind each of some steps."""
    for across in range(number):
        for along in range(number):
            if tell_apart((number, across, along), steps):
                return True
    return False


def is_hues(value):
    """Whether a value is hues, and not too many."""
    return (is_ints(value, 3) and 2 <= value[0] <= MOST_HUES and 0 <= value[1] < value[0]
            and 0 <= value[2] < value[0])


def copy_at(shape, lattice, cell):
    """The shove of the copy that holds a cell."""
    check_shape(shape)
    check_lattice(lattice)
    check_cell(cell)
    check_filled(shape, lattice)
    return holder(lattice, shape.cells, cell)[1]


def cells_at(shape, lattice, shove):
    """The cells of the copy of a shove, ascending."""
    check_shape(shape)
    check_lattice(lattice)
    check_cell(shove)
    if rest_of(lattice, shove) != (0, 0):
        raise InvalidCell(shove)
    check_filled(shape, lattice)
    return tuple([(x + shove[0], y + shove[1]) for (x, y) in shape.cells])


def neighbours(shape, lattice):
    """All shoves whose copies lie beside that of (0, 0), ascending."""
    check_shape(shape)
    check_lattice(lattice)
    check_filled(shape, lattice)
    return tuple(neighbours_of(shape, lattice))


def are_fine(shape, lattice, hues):
    """Whether neighbours always have different hues."""
    check_shape(shape)
    check_lattice(lattice)
    if not is_hues(hues):
        raise InvalidCells(None)
    check_filled(shape, lattice)
    return tell_apart(hues, steps_from(shape, lattice))


def least_hues(shape, lattice):
    """The least number of hues by which neighbours can be told apart."""
    check_shape(shape)
    check_lattice(lattice)
    check_filled(shape, lattice)
    steps = steps_from(shape, lattice)
    number = 2
    while not any_tell_apart(number, steps):
        number += 1
    return number


def line_at(shape, lattice, cell, many):
    """For so many cells of a line, from a cell on to the right, the indexes of the cells whose copies they are."""
    check_shape(shape)
    check_lattice(lattice)
    check_cell(cell)
    check_number(many, 0, MOST_IN_LINE)
    check_filled(shape, lattice)
    x, y = cell
    return tuple([holder(lattice, shape.cells, (x + at, y))[0] for at in range(many)])
