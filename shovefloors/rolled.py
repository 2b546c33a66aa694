"""Rolled floors: their columns and lines go round, and copies of a shape fill them."""

from shovefloors.arguments import check_number
from shovefloors.errors import TooGreat
from shovefloors.limits import MOST_ROLLED
from shovefloors.shapes import check_shape

# The cells of a floor are told by their numbers, column by column, so that numbers are ascending just as cells are.
# Several cells together are told by an integer, in which the bit with the number of each of them is set.


def held_by(shape, wide, high, number):
    """The numbers of the cells that a copy of a shape holds if it is brought to the cell with a number."""
    left, top = divmod(number, high)
    return [(left + x) % wide * high + (top + y) % high for (x, y) in shape.cells]


def copies_over(shape, wide, high):
    """For each cell of a floor the copies that hold it, each told by where it is brought and all that it holds."""
    found = [[] for _ in range(wide * high)]
    for place in range(wide * high):
        numbers = held_by(shape, wide, high, place)
        # A copy that comes round and holds a cell twice is none.
        if len(set(numbers)) == len(numbers):
            bits = sum([1 << number for number in numbers])
            for number in numbers:
                found[number].append((place, bits))
    return found


def all_free(wide, high):
    """All cells of a floor together."""
    return (1 << wide * high) - 1


def first_of(bits):
    """The number of the first one of some cells."""
    return (bits & -bits).bit_length() - 1


def fill(copies, free, places, found):
    """Tells in `found` each way to fill what is free, with the places to which copies have been brought by then."""
    if free == 0:
        found.append(sorted(places))
        return
    for place, bits in copies[first_of(free)]:
        if free & bits == bits:
            fill(copies, free - bits, [*places, place], found)


def can_fill(copies, free):
    """Whether there is a way to fill what is free."""
    if free == 0:
        return True
    for _, bits in copies[first_of(free)]:
        if free & bits == bits and can_fill(copies, free - bits):
            return True
    return False


def fillings(shape, wide, high):
    """All fillings of a rolled floor by a shape, ascending."""
    check_shape(shape)
    check_number(wide, 1, MOST_ROLLED)
    check_number(high, 1, MOST_ROLLED)
    if wide * high > MOST_ROLLED:
        raise TooGreat(wide * high)
    found = []
    fill(copies_over(shape, wide, high), all_free(wide, high), [], found)
    cells = [divmod(number, high) for number in range(wide * high)]
    return tuple([tuple([cells[place] for place in places]) for places in sorted(found)])


def count_fillings(shape, wide, high):
    """How many fillings of a rolled floor by a shape there are."""
    return len(fillings(shape, wide, high))


def least_rolled(shape, most):
    """The columns and lines of the least rolled floor that a shape fills, None if all have more cells than `most`."""
    check_shape(shape)
    check_number(most, 1, MOST_ROLLED)
    for many in range(len(shape), most + 1, len(shape)):
        for wide in range(1, many + 1):
            high = many // wide
            if wide * high == many and can_fill(copies_over(shape, wide, high), all_free(wide, high)):
                return (wide, high)
    return None
