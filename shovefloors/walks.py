"""Walks around whole shapes, and how they are cut into parts that come back the other way."""

from shovefloors.arguments import check_lattice, is_ints
from shovefloors.errors import InvalidCut, InvalidText, NotWhole
from shovefloors.lattices import check_filled, lattice_from
from shovefloors.limits import MOST_CELLS
from shovefloors.shapes import check_shape, shape_from

STEPS = {"r": (1, 0), "d": (0, 1), "l": (-1, 0), "u": (0, -1)}
OPPOSITE = {"r": "l", "d": "u", "l": "r", "u": "d"}


def check_whole(shape):
    """Raises NotWhole if a shape is not whole."""
    if not shape.is_whole:
        raise NotWhole()


def letters_at(cells):
    """For each corner on the edge of some cells the step from there that has them on its right hand."""
    found = {}
    for x, y in cells:
        if (x, y - 1) not in cells:
            found[x, y] = "r"
        if (x + 1, y) not in cells:
            found[x + 1, y] = "d"
        if (x, y + 1) not in cells:
            found[x + 1, y + 1] = "l"
        if (x - 1, y) not in cells:
            found[x, y + 1] = "u"
    return found


def walk_of(shape):
    """The walk of a shape that is known to be whole."""
    letters = letters_at(shape.cells)
    y, x = min([(line, column) for (column, line) in shape.cells])
    text = ""
    # The edge of a whole shape never touches itself, so the walk takes just one step from each corner.
    for _ in range(len(letters)):
        letter = letters[x, y]
        text += letter
        x += STEPS[letter][0]
        y += STEPS[letter][1]
    return text


def corners_of(text):
    """The corners to which a walk from (0, 0) comes, from its beginning to its end."""
    found = [(0, 0)]
    for letter in text:
        x, y = found[-1]
        a, b = STEPS[letter]
        found.append((x + a, y + b))
    return found


def opposite(part):
    """A part of a walk backwards, with all letters opposite."""
    return "".join([OPPOSITE[letter] for letter in part[::-1]])


def comes_back(text, start, end):
    """Whether the part of a walk between two points comes back the other way, half the walk further on."""
    half = len(text) // 2
    led_round = text + text
    return led_round[start + half:end + half] == opposite(led_round[start:end])


def ends_of(text, cut):
    """Where the parts of the first half end that begin at the points of a cut."""
    return [*cut[1:], cut[0] + len(text) // 2]


def cuts_of(text):
    """All cuts of a walk, ascending."""
    half = len(text) // 2
    good = {(a, b): True for a in range(half) for b in range(a + 1, a + half) if comes_back(text, a, b)}
    starts = [(a, b) for (a, b) in good if b < half]
    pairs = [(a, b) for (a, b) in starts if (b, a + half) in good]
    triples = [(a, b, c) for (a, b) in starts for c in range(b + 1, half) if (b, c) in good and (c, a + half) in good]
    return sorted(pairs + triples)


def lattice_by(text, cut):
    """The lattice of a cut of a walk."""
    half = len(text) // 2
    corners = corners_of(text + text)
    shoves = []
    for start, end in zip(cut, ends_of(text, cut)):
        # The later part comes back the other way, so its end is brought on to where the earlier one begins.
        to, back = corners[start], corners[end + half]
        shoves.append((to[0] - back[0], to[1] - back[1]))
    return lattice_from(shoves)


def is_cut(text, value):
    """Whether a value is a cut of a walk."""
    # The numbers are looked at ahead of the cuts, since True is equal to 1.
    return (is_ints(value, 2) or is_ints(value, 3)) and value in cuts_of(text)


def check_cut(text, cut):
    """Raises InvalidCut for what is no cut of a walk."""
    if not is_cut(text, cut):
        raise InvalidCut(cut)


def cells_within(text):
    """The cells around which a walk goes, from (0, 0) on; any cells if it crosses itself."""
    sides = {}
    for corner, letter in zip(corners_of(text), text):
        if letter == "d":
            sides.setdefault(corner[1], []).append(corner[0])
        if letter == "u":
            sides.setdefault(corner[1] - 1, []).append(corner[0])
    cells = []
    for line in sides:
        columns = sorted(sides[line])
        for left, right in zip(columns[::2], columns[1::2]):
            cells.extend([(column, line) for column in range(left, right)])
    return cells


def is_way(value):
    """Whether a value is a string of steps, no more than a walk can have."""
    # In a piece all cells but one have an edge in common with one ahead of them, which spares two steps.
    return (isinstance(value, str) and len(value) <= 2 * MOST_CELLS + 2
            and all([letter in STEPS for letter in value]))


def walk(shape):
    """The walk of a whole shape."""
    check_shape(shape)
    check_whole(shape)
    return walk_of(shape)


def cuts(shape):
    """All cuts of the walk of a whole shape, ascending."""
    check_shape(shape)
    check_whole(shape)
    return tuple(cuts_of(walk_of(shape)))


def lattice_of(shape, cut):
    """The lattice that comes from a cut of the walk of a whole shape."""
    check_shape(shape)
    check_whole(shape)
    text = walk_of(shape)
    check_cut(text, cut)
    return lattice_by(text, cut)


def cut_of(shape, lattice):
    """The cut of the walk of a whole shape from which a lattice comes."""
    check_shape(shape)
    check_lattice(lattice)
    check_whole(shape)
    check_filled(shape, lattice)
    text = walk_of(shape)
    return [cut for cut in cuts_of(text) if lattice_by(text, cut) == lattice][0]


def parts(shape, cut):
    """All parts of the walk of a whole shape, from the first point of a cut on."""
    check_shape(shape)
    check_whole(shape)
    text = walk_of(shape)
    check_cut(text, cut)
    half = len(text) // 2
    points = [*cut, *[point + half for point in cut], cut[0] + len(text)]
    led_round = text + text
    return tuple([led_round[start:end] for start, end in zip(points, points[1:])])


def shape_of(text):
    """The whole shape with this walk."""
    if not is_way(text):
        raise InvalidText(text)
    cells = cells_within(text)
    if not 1 <= len(cells) <= MOST_CELLS:
        raise InvalidText(text)
    shape = shape_from(cells)
    # All else that may be wrong in a text makes it unlike the walk that the shape has.
    if not shape.is_whole or walk_of(shape) != text:
        raise InvalidText(text)
    return shape
