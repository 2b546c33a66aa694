"""Lattices: the shoves by which a shape may fill the plane."""

from math import gcd, lcm

from shovefloors.arguments import check_cell, check_lattice, check_shoves
from shovefloors.errors import NotFilled, TooGreat
from shovefloors.limits import MOST_LATTICE
from shovefloors.shapes import check_shape


def rest_of(lattice, cell):
    """The rest of a cell by a lattice, neither of them looked at."""
    wide, slip, high = lattice
    x, y = cell
    return ((x - y // high * slip) % wide, y % high)


def holds_each_once(lattice, cells):
    """Whether some cells, brought by all shoves of a lattice, hold each cell of the plane just once."""
    wide, _, high = lattice
    return len(cells) == wide * high == len({rest_of(lattice, cell) for cell in cells})


def holder(lattice, cells, cell):
    """The index of that one of some cells that a shove of a lattice brings to a cell, and this shove."""
    index = [rest_of(lattice, own) for own in cells].index(rest_of(lattice, cell))
    x, y = cells[index]
    return (index, (cell[0] - x, cell[1] - y))


def check_filled(shape, lattice):
    """Raises NotFilled if a shape does not fill by a lattice."""
    if not holds_each_once(lattice, shape.cells):
        raise NotFilled()


def lattices_with(many):
    """All lattices that have so many rests, ascending."""
    return [(wide, slip, many // wide) for wide in range(1, many + 1) if many % wide == 0 for slip in range(wide)]


def lattices_of(shape):
    """All lattices by which a shape fills, ascending."""
    return tuple([lattice for lattice in lattices_with(len(shape)) if holds_each_once(lattice, shape.cells)])


def led_level(one, two):
    """Two shoves with the same sums as two others, the last one of them staying in its line."""
    while two[1] != 0:
        times = one[1] // two[1]
        one, two = two, (one[0] - times * two[0], one[1] - times * two[1])
    return (one, two)


def lattice_from(shoves):
    """The lattice of all sums of some shoves, None if these lie along one line."""
    wide = 0
    slant = (0, 0)
    for shove in shoves:
        slant, level = led_level(slant, shove)
        wide = gcd(wide, level[0])
    slip, high = slant
    if wide == 0 or high == 0:
        return None
    # The opposite shove is one of the lattice, too, and h must not be below 0.
    if high < 0:
        slip, high = -slip, -high
    return (wide, slip % wide, high)


def rest(lattice, cell):
    """The rest of a cell by a lattice."""
    check_lattice(lattice)
    check_cell(cell)
    return rest_of(lattice, cell)


def is_filled(shape, lattice):
    """Whether a shape fills by a lattice."""
    check_shape(shape)
    check_lattice(lattice)
    return holds_each_once(lattice, shape.cells)


def lattices(shape):
    """All lattices by which a shape fills, ascending."""
    check_shape(shape)
    return lattices_of(shape)


def fills(shape):
    """Whether there is a lattice by which a shape fills."""
    return len(lattices(shape)) > 0


def made_by(shoves):
    """The lattice of all sums of some shoves and their opposites, None if these lie along one line."""
    check_shoves(shoves)
    lattice = lattice_from(shoves)
    if lattice is None:
        return None
    wide, _, high = lattice
    if wide > MOST_LATTICE:
        raise TooGreat(wide)
    if high > MOST_LATTICE:
        raise TooGreat(high)
    return lattice


def common(lattice, other):
    """The lattice of all shoves that are of both lattices."""
    check_lattice(lattice)
    check_lattice(other)
    wide, slip, high = lattice
    wide_too, slip_too, high_too = other
    # A shove of both goes down by a multiple of `step`, by such a one that it has the same column for both lattices,
    # but for multiples of w of the one and of the other: but for multiples of `shared`.
    step = lcm(high, high_too)
    shared = gcd(wide, wide_too)
    apart = step // high * slip - step // high_too * slip_too
    deep = step * (shared // gcd(shared, apart))
    first = deep // high * slip
    last = deep // high_too * slip_too
    slips = [at for at in range(first, first + wide * wide_too, wide) if (at - last) % wide_too == 0]
    both = lcm(wide, wide_too)
    return (both, slips[0] % both, deep)


def down(lattice):
    """The least number of lines, from 1 on, by which a shove of a lattice goes straight down."""
    check_lattice(lattice)
    wide, slip, high = lattice
    return wide // gcd(wide, slip) * high
