"""What arguments must be: questions that several modules ask of what they are passed."""

from shovefloors.errors import InvalidCell, InvalidCells, InvalidLattice, InvalidNumber, InvalidShoves
from shovefloors.limits import MOST_CELLS, MOST_LATTICE, MOST_PLACE, MOST_SHOVES


def is_int(value):
    """Whether a value is an integer."""
    # True and False are integers for Python, but not for the document.
    return isinstance(value, int) and not isinstance(value, bool)


def is_ints(value, many):
    """Whether a value is a tuple of so many integers, however great."""
    return isinstance(value, tuple) and len(value) == many and all([is_int(part) for part in value])


def is_pair(value):
    """Whether a value is a pair of integers, however great."""
    return isinstance(value, tuple) and len(value) == 2 and is_int(value[0]) and is_int(value[1])


def is_place(value):
    """Whether a value is a pair of integers from -MOST_PLACE to MOST_PLACE."""
    return is_pair(value) and abs(value[0]) <= MOST_PLACE and abs(value[1]) <= MOST_PLACE


def is_lattice(value):
    """Whether a value is a lattice, however great."""
    return is_ints(value, 3) and 0 <= value[1] < value[0] and value[2] >= 1


def is_passed_lattice(value):
    """Whether a value is a lattice that is not too great to be passed."""
    return is_lattice(value) and max(value) <= MOST_LATTICE


def is_within(value, least, most):
    """Whether a value is an integer from the least one to the most one."""
    return is_int(value) and least <= value <= most


def first_wrong(values, most):
    """The index of the first value that is no place, stood before or is beyond so many, None if there is none."""
    seen = set()
    for index, value in enumerate(values):
        # Asked in this order, since only a place can surely be a member of a set.
        if index >= most or not is_place(value) or value in seen:
            return index
        seen.add(value)
    return None


def is_nonempty(value):
    """Whether a value is a tuple with something in it."""
    return isinstance(value, tuple) and len(value) > 0


def check_cells(cells):
    """Raises InvalidCells for what a shape cannot be made of."""
    if not is_nonempty(cells):
        raise InvalidCells(None)
    index = first_wrong(cells, MOST_CELLS)
    if index is not None:
        raise InvalidCells(index)


def check_shoves(shoves):
    """Raises InvalidShoves for what is no tuple of shoves."""
    if not is_nonempty(shoves):
        raise InvalidShoves(None)
    index = first_wrong(shoves, MOST_SHOVES)
    if index is not None:
        raise InvalidShoves(index)


def check_cell(cell):
    """Raises InvalidCell for what is no pair of integers."""
    if not is_pair(cell):
        raise InvalidCell(cell)


def check_lattice(lattice):
    """Raises InvalidLattice for what is no lattice, or one that is too great to be passed."""
    if not is_passed_lattice(lattice):
        raise InvalidLattice(lattice)


def check_number(number, least, most):
    """Raises InvalidNumber for what is no integer from the least one to the most one."""
    if not is_within(number, least, most):
        raise InvalidNumber(number)
