"""What claims and certificates are right, as the document tells it, and many that are nearly so."""

import itertools

from shovefloors.lattices import lattices
from shovefloors.places import are_fine, copy_at, neighbours
from shovefloors.rolled import fillings
from shovefloors.shapes import Shape
from shovefloors.turning import is_turned_floor
from shovefloors.walks import cuts, parts
from tests.support import Plain, text_of


def is_plain(value):
    """Whether a value is made of tuples, strings and integers alone."""
    if isinstance(value, tuple):
        return all([is_plain(part) for part in value])
    return value.__class__ in (int, str)


def shape_of(text):
    """The shape with a text, None if there is none, found by looking at each line."""
    if not isinstance(text, str) or not text or set(text) - set("#.\n") or not 1 <= text.count("#") <= 24:
        return None
    lines = text.split("\n")
    if len({len(line) for line in lines}) > 1:
        return None
    cells = tuple(sorted([(x, y) for y, line in enumerate(lines) for x, sign in enumerate(line) if sign == "#"]))
    if min(x for x, y in cells) or min(y for x, y in cells) or text_of(cells) != text:
        return None
    return Shape(cells)


def is_pair(value):
    return isinstance(value, tuple) and len(value) == 2 and all([part.__class__ is int for part in value])


def all_with(many):
    """All lattices with so many rests, ascending."""
    return [(w, s, h) for w in range(1, many + 1) for s in range(w) for h in range(1, many + 1) if w * h == many]


def rests(lattice, cells):
    w, s, h = lattice
    return tuple([((x - s * (y // h)) % w, y % h) for x, y in cells])


def told_of(shape, word, told):
    """The certificate that a right claim must have, None for a wrong claim."""
    if word in ("fills", "hues", "apart") and told[0] not in lattices(shape):
        return None
    if word == "fills" and len(told) == 1:
        return rests(told[0], shape.cells)
    if word == "cut" and len(told) == 1 and shape.is_whole and told[0] in cuts(shape):
        return parts(shape, told[0])[:len(told[0])]
    if word == "hues" and len(told) == 2:
        hues = told[1]
        if not isinstance(hues, tuple) or len(hues) != 3 or not all([part.__class__ is int for part in hues]):
            return None
        if not 2 <= hues[0] <= 24 or not 0 <= hues[1] < hues[0] or not 0 <= hues[2] < hues[0]:
            return None
        return neighbours(shape, told[0]) if are_fine(shape, told[0], hues) else None
    if word == "turned" and len(told) == 1 and is_turned_floor(shape, told[0]):
        return ()
    if word == "rolled" and len(told) == 3 and all([part.__class__ is int for part in told]):
        if 1 <= told[0] <= 36 and 1 <= told[1] <= 36 and told[0] * told[1] <= 36:
            found = fillings(shape, told[0], told[1])
            return found if len(found) == told[2] else None
    if word == "apart" and len(told) == 3 and is_pair(told[1]) and is_pair(told[2]):
        shoves = (copy_at(shape, told[0], told[1]), copy_at(shape, told[0], told[2]))
        return shoves if shoves[0] != shoves[1] else None
    return None


def shows_stuck(shape, certificate):
    """Whether a certificate has two cells with the same rest for each lattice."""
    possible = all_with(len(shape))
    if not isinstance(certificate, tuple) or len(certificate) != len(possible):
        return False
    for lattice, pair in zip(possible, certificate):
        if not is_pair(pair) or not 0 <= pair[0] < pair[1] < len(shape):
            return False
        found = rests(lattice, shape.cells)
        if found[pair[0]] != found[pair[1]]:
            return False
    return True


def is_right(claim, certificate):
    """Whether a claim and its certificate are to be accepted."""
    if not is_plain(claim) or not is_plain(certificate) or not isinstance(claim, tuple) or len(claim) < 2:
        return False
    shape = shape_of(claim[1])
    if shape is None or claim[0] not in ("fills", "stuck", "cut", "hues", "turned", "rolled", "apart"):
        return False
    if claim[0] == "stuck":
        return len(claim) == 2 and shows_stuck(shape, certificate)
    if len(claim) < 3:
        return False
    wanted = told_of(shape, claim[0], claim[2:])
    return wanted is not None and repr(certificate) == repr(wanted)


def nearly(value):
    """Many values that are nearly another one, changed in one place."""
    if isinstance(value, tuple):
        return nearly_tuple(value)
    if isinstance(value, str):
        found = [value + "#", value + "\n", value[:-1], value[1:], "." + value, " " + value, value.upper(), list(value),
                 value.encode(), (value,), None, 0, value.replace("#", ".", 1), value.replace(".", "#", 1),
                 value.replace("\n", "/"), value.replace("\n", "\n\n"), value + "\n" + value, value[::-1]]
        return [other for other in found if other != value]
    found = [value + 1, value - 1, -value, value + 24, value + 10 ** 30, str(value), [value], (value,), None, Plain()]
    return [other for other in found if other.__class__ is not int or other != value] + [bool(value), b"1"]


def nearly_tuple(value):
    found = [list(value), dict(enumerate(value)), None, True, "", 0, Plain(), value + (0,), value + ((0, 0),), (value,),
             value + value[:1], value[:-1], value[1:], value[::-1], value[:1] + value, value + (Plain(),)]
    for at, part in enumerate(value):
        found.extend([value[:at] + (other,) + value[at + 1:] for other in nearly(part)])
        found.append(value[:at] + value[at + 1:])
        for other in range(at):
            changed = list(value)
            changed[at], changed[other] = changed[other], changed[at]
            found.append(tuple(changed))
    return found


DEEP = ()
for _ in range(19):
    DEEP = (DEEP,)

ANY_VALUES = [
    None, True, False, 0, 1, -1, 10 ** 79, "", "#", "fills", b"fills", (), [], {}, {"fills": 1}, {1}, frozenset((1,)),
    range(3), Plain(), Plain, Shape, Shape(((0, 0),)), len, ValueError("x"), DEEP, [[[[]]]], ("fills",), ("stuck",),
    ("fills", "#"), ("fills", "#", None), ("fills", Plain(), (1, 0, 1)), ("fills", DEEP, DEEP), (Plain(), "#"),
    (Plain(), Plain(), Plain()), (("fills",), "#", (1, 0, 1)), ({}, "#", (1, 0, 1)), ([], "#", (1, 0, 1)),
    ["fills", "#", (1, 0, 1)], ("fills", "#", [1, 0, 1]), ("fills", "#", (1, 0, 1), ()), ("Fills", "#", (1, 0, 1)),
    ("whole", "#"), ("by", "#", (1, 0, 1)), ("", "#"), (True, "#", (1, 0, 1)), ((0, 0),), ((0, 0), (0, 0)), ((),),
    ((Plain(), Plain()),), (Plain(),), "".join(["#"] * 1000), iter(()), zip(), (b"fills", b"#", (1, 0, 1))]


def pairs_of(shape):
    """For each lattice all pairs of cells that can stand in a certificate that a shape is stuck."""
    found = []
    for lattice in all_with(len(shape)):
        own = rests(lattice, shape.cells)
        found.append([(i, j) for i, j in itertools.combinations(range(len(shape)), 2) if own[i] == own[j]])
    return found
