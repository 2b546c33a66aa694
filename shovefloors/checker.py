"""A small checker: whether what is claimed of a shape is shown to be true by a certificate."""

from shovefloors.arguments import is_int, is_lattice, is_pair, is_within
from shovefloors.lattices import holder, holds_each_once, lattices_with, rest_of
from shovefloors.limits import MOST_ROLLED
from shovefloors.places import is_hues, neighbours_of, steps_from, tell_apart
from shovefloors.rolled import fillings
from shovefloors.shapes import shape_with
from shovefloors.turning import is_turned_floor
from shovefloors.walks import is_cut, parts, walk_of


def is_same(value, wanted):
    """Whether a value is what is wanted, which is made of tuples, strings and integers, and of its kinds throughout."""
    # The kinds are looked at first: True is equal to 1, and an object of any class may be equal to all others.
    if isinstance(wanted, tuple):
        return (isinstance(value, tuple) and len(value) == len(wanted)
                and all([is_same(own, part) for own, part in zip(value, wanted)]))
    if isinstance(wanted, str):
        return isinstance(value, str) and value == wanted
    return is_int(value) and value == wanted


def is_filling(shape, lattice):
    """Whether a value is a lattice, and the shape fills by it."""
    return is_lattice(lattice) and holds_each_once(lattice, shape.cells)


def has_double(shape, lattice, pair):
    """Whether a value is a pair of the indexes of two cells with the same rest, the lesser index first."""
    if not is_pair(pair) or not 0 <= pair[0] < pair[1] < len(shape):
        return False
    return rest_of(lattice, shape.cells[pair[0]]) == rest_of(lattice, shape.cells[pair[1]])


def rests_of(shape, lattice):
    """The rests of the cells of a shape, in their order."""
    return tuple([rest_of(lattice, cell) for cell in shape.cells])


def first_parts(shape, cut):
    """The parts of a walk from the first cut point on, as many as cut points."""
    return parts(shape, cut)[:len(cut)]


def holding_shoves(shape, lattice, one, two):
    """The shoves of the copies that hold two cells."""
    return (holder(lattice, shape.cells, one)[1], holder(lattice, shape.cells, two)[1])


def accepts_fills(shape, told, certificate):
    """Whether it is shown that a shape fills by a lattice."""
    lattice = told[0]
    return is_filling(shape, lattice) and is_same(certificate, rests_of(shape, lattice))


def accepts_stuck(shape, told, certificate):
    """Whether it is shown that a shape fills by no lattice."""
    possible = lattices_with(len(shape))
    return (isinstance(certificate, tuple) and len(certificate) == len(possible)
            and all([has_double(shape, lattice, pair) for lattice, pair in zip(possible, certificate)]))


def accepts_cut(shape, told, certificate):
    """Whether it is shown that a shape is whole and its walk has a cut."""
    cut = told[0]
    return shape.is_whole and is_cut(walk_of(shape), cut) and is_same(certificate, first_parts(shape, cut))


def accepts_hues(shape, told, certificate):
    """Whether it is shown that a shape fills by a lattice and hues are fine."""
    lattice, hues = told
    return (is_filling(shape, lattice) and is_hues(hues) and tell_apart(hues, steps_from(shape, lattice))
            and is_same(certificate, tuple(neighbours_of(shape, lattice))))


def accepts_turned(shape, told, certificate):
    """Whether it is shown that something is a turned floor of a shape."""
    return is_turned_floor(shape, told[0]) and is_same(certificate, ())


def accepts_rolled(shape, told, certificate):
    """Whether it is shown that there are just so many fillings of a rolled floor."""
    wide, high, many = told
    if not is_within(wide, 1, MOST_ROLLED) or not is_within(high, 1, MOST_ROLLED) or wide * high > MOST_ROLLED:
        return False
    found = fillings(shape, wide, high)
    return is_same(many, len(found)) and is_same(certificate, found)


def accepts_apart(shape, told, certificate):
    """Whether it is shown that a shape fills by a lattice and two cells are held by different copies."""
    lattice, one, two = told
    if not is_filling(shape, lattice) or not is_pair(one) or not is_pair(two):
        return False
    shoves = holding_shoves(shape, lattice, one, two)
    return shoves[0] != shoves[1] and is_same(certificate, shoves)


CHECKS = {
    "fills": accepts_fills, "stuck": accepts_stuck, "cut": accepts_cut, "hues": accepts_hues,
    "turned": accepts_turned, "rolled": accepts_rolled, "apart": accepts_apart}
# How many elements a claim has behind its word and the text of the shape.
LENGTHS = {"fills": 1, "stuck": 0, "cut": 1, "hues": 2, "turned": 1, "rolled": 3, "apart": 3}


def accepts(claim, certificate):
    """Whether a value is a claim that the checker knows, and another one a certificate for it."""
    if not isinstance(claim, tuple) or len(claim) < 2 or not isinstance(claim[0], str):
        return False
    word = claim[0]
    told = claim[2:]
    if word not in CHECKS or len(told) != LENGTHS[word]:
        return False
    shape = shape_with(claim[1])
    if shape is None:
        return False
    check = CHECKS[word]
    return check(shape, told, certificate)
