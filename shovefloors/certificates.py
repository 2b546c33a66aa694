"""Certificates: answers of this package as claims that the checker accepts."""

from shovefloors.arguments import check_cell, check_lattice
from shovefloors.checker import first_parts, holding_shoves, rests_of
from shovefloors.errors import TooGreat
from shovefloors.lattices import check_filled, lattices_of, lattices_with
from shovefloors.places import MOST_HUES, least_hues, neighbours_of, steps_from, tell_apart
from shovefloors.rolled import fillings
from shovefloors.shapes import check_shape
from shovefloors.turning import turned_floors
from shovefloors.walks import cuts


def first_double(rests):
    """The indexes of two rests that are the same, the lesser index first."""
    index = [at for at, own in enumerate(rests) if own in rests[:at]][0]
    return (rests.index(rests[index]), index)


def first_hues(number, steps):
    """The first ones of so many hues that are others behind each of some steps."""
    found = [(number, across, along) for across in range(number) for along in range(number)]
    return [hues for hues in found if tell_apart(hues, steps)][0]


def certify_shape(shape):
    """That a shape fills by the first of its lattices, or by none."""
    check_shape(shape)
    found = lattices_of(shape)
    if len(found) > 0:
        return (("fills", str(shape), found[0]), rests_of(shape, found[0]))
    doubles = [first_double(rests_of(shape, lattice)) for lattice in lattices_with(len(shape))]
    return (("stuck", str(shape)), tuple(doubles))


def certify_cut(shape):
    """That the first cut of the walk of a whole shape is one, None if there is none."""
    found = cuts(shape)
    if len(found) == 0:
        return None
    return (("cut", str(shape), found[0]), first_parts(shape, found[0]))


def certify_turned(shape):
    """That the first turned floor of a shape is one, None if there is none."""
    found = turned_floors(shape)
    if len(found) == 0:
        return None
    return (("turned", str(shape), found[0]), ())


def certify_rolled(shape, wide, high):
    """How many fillings of a rolled floor by a shape there are."""
    found = fillings(shape, wide, high)
    return (("rolled", str(shape), wide, high, len(found)), found)


def certify_apart(shape, lattice, one, two):
    """That two cells are held by different copies, None if they are held by one."""
    check_shape(shape)
    check_lattice(lattice)
    check_cell(one)
    check_cell(two)
    check_filled(shape, lattice)
    shoves = holding_shoves(shape, lattice, one, two)
    if shoves[0] == shoves[1]:
        return None
    return (("apart", str(shape), lattice, one, two), shoves)


def certify_hues(shape, lattice):
    """That the first hues, of the least number, are fine."""
    number = least_hues(shape, lattice)
    if number > MOST_HUES:
        raise TooGreat(number)
    hues = first_hues(number, steps_from(shape, lattice))
    return (("hues", str(shape), lattice, hues), tuple(neighbours_of(shape, lattice)))
