"""What several tests need."""

import itertools
import unittest

from shovefloors.shapes import Shape


class Plain:
    """A value of a class that the package does not know."""

    def __eq__(self, other):
        return True


NO_TUPLES = [None, True, False, 0, 7, "", "ab", b"ab", [], [(0, 0)], {}, {(0, 0): 1}, {(0, 0)}, frozenset(), range(2),
             Plain(), Shape(((0, 0),)), Shape, len]

NO_PAIRS = [None, True, 0, 5, "", "ab", b"ab", [], [0, 0], (), (0,), (0, 0, 0), (0, "0"), ("0", 0), (None, 0),
            (0, None), (True, 0), (0, False), (False, True), ((0, 0),), ((0, 0), (0, 0)), ([0], 0), (0, [0]),
            {0: 0, 1: 1}, {0, 1},
            range(2), Plain(), Shape(((0, 0),)), (Plain(), 0), (0, b"a"), ((((1,),),), 0)]

NO_SHAPES = [None, True, 0, "#", "#.\n##", b"#", (), ((0, 0),), [(0, 0)], [Shape(((0, 0),))], (Shape(((0, 0),)),), {},
             {(0, 0)}, Plain(), Plain, Shape, len]

NO_LATTICES = NO_TUPLES + [
    (), (3,), (3, 1), (3, 1, 1, 1), [3, 1, 1], ((3, 1, 1),), "311", {3: 1}, range(1, 4), (None, 1, 1), (3, None, 1),
    (3, 1, None), ("3", 1, 1), (3, "1", 1), (3, 1, "1"), ([3], 1, 1), (3, (1,), 1), (3, 1, {}), (Plain(), 1, 1),
    (3, Plain(), 1), (3, 1, Plain()), (True, 0, 1), (1, False, 1), (2, True, 1), (1, 0, True), (3, False, 1),
    (0, 0, 1), (-1, 0, 1), (-3, -1, 1), (-3, 1, 1), (1, 0, 0), (1, 0, -1), (3, 1, 0), (3, 1, -1), (3, -1, 1),
    (3, 3, 1), (3, 4, 1), (1, 1, 1), (1, -1, 1), (101, 0, 1), (1, 0, 101), (101, 100, 101), (100, 100, 1),
    (10 ** 79, 0, 1), (1, 0, 10 ** 79), (3, 10 ** 79, 1), (3, -10 ** 79, 1), (((((3,),),),), 1, 1)]

NO_INTEGERS = NO_TUPLES[:3] + NO_TUPLES[5:] + ["1", b"1", (), (1,), (1, 1), [1], {1: 1}, {1}, (((1,),),)]

FAR_NUMBERS = [0, 1, -1, 999, -1001, 10 ** 30, 10 ** 30 + 1, -10 ** 30, -10 ** 30 - 1, 10 ** 79, -10 ** 79]


class Case(unittest.TestCase):
    """A test that asks for an error with just this class and attribute."""

    def assert_given(self, error, given, call, *args, **named):
        with self.assertRaises(error) as caught:
            call(*args, **named)
        self.assertIs(caught.exception.__class__, error)
        self.assertIs(caught.exception.given, given)

    def assert_number(self, error, number, call, *args, **named):
        with self.assertRaises(error) as caught:
            call(*args, **named)
        self.assertIs(caught.exception.__class__, error)
        self.assertIs(caught.exception.given.__class__, int)
        self.assertEqual(caught.exception.given, number)

    def assert_index(self, error, index, call, *args, **named):
        with self.assertRaises(error) as caught:
            call(*args, **named)
        self.assertIs(caught.exception.__class__, error)
        self.assertIs(caught.exception.index.__class__, index.__class__)
        self.assertEqual(caught.exception.index, index)

    def assert_bare(self, error, call, *args, **named):
        with self.assertRaises(error) as caught:
            call(*args, **named)
        self.assertIs(caught.exception.__class__, error)

    def assert_alone(self, values):
        """Each of some objects is true, and equals itself, but none of the others nor a value of another class."""
        others = [None, True, 0, "", (), [], {}, Plain(), Shape(((0, 0),)), object()]
        for value in values:
            self.assertIs(bool(value), True)
            self.assertIs(value == value, True)
            self.assertIs(value != value, False)
            for other in others + [one for one in values if one is not value]:
                self.assertIs(value == other, False)
                self.assertIs(value != other, True)

    def assert_same(self, found, wanted):
        """Equal, and of the same kinds within: True does not stand for 1, nor a list for a tuple."""
        self.assertEqual(repr(found), repr(wanted))


def text_of(cells):
    """The text of a shape with some cells, made by looking at each place."""
    wide, high = max([x for x, y in cells]) + 1, max([y for x, y in cells]) + 1
    return "\n".join(["".join(["#" if (x, y) in cells else "." for x in range(wide)]) for y in range(high)])


def told_anew(cells):
    """Some cells, brought to where the least column and line are 0, ascending."""
    left, top = min([x for x, y in cells]), min([y for x, y in cells])
    return tuple(sorted([(x - left, y - top) for x, y in cells]))


def shoves_of(lattice, far):
    """The shoves of a lattice, each with how many times its two shoves are taken, from -far to far."""
    wide, slip, high = lattice
    return {(a * wide + b * slip, b * high): (a, b)
            for a in range(-far, far + 1) for b in range(-far, far + 1)}


def holds_once(copies, block):
    """Whether each cell of a block is just once among the cells of some copies."""
    count = {cell: 0 for cell in block}
    for cell in copies:
        if cell in count:
            count[cell] += 1
    return set(count.values()) == {1}


def all_lattices(most_wide, most_high):
    """All lattices up to some columns and lines."""
    return [(wide, slip, high) for wide in range(1, most_wide + 1) for slip in range(wide)
            for high in range(1, most_high + 1)]


def shapes_within(wide, high):
    """All shapes that a block holds, each once."""
    block = list(itertools.product(range(wide), range(high)))
    found = {}
    for many in range(1, len(block) + 1):
        for cells in itertools.combinations(block, many):
            shape = Shape(cells)
            found[shape.cells] = shape
    return list(found.values())


def pieces_up_to(many):
    """All shapes in one piece with up to so many cells."""
    rows = [[Shape(((0, 0),))]]
    while len(rows) < many:
        found = {}
        for shape in rows[-1]:
            for x, y in shape.cells:
                for cell in ((x + 1, y), (x - 1, y), (x, y + 1), (x, y - 1)):
                    if cell not in shape.cells:
                        grown = Shape(shape.cells + (cell,))
                        found[grown.cells] = grown
        rows.append(list(found.values()))
    return [shape for row in rows for shape in row]


def whole_up_to(many):
    """All whole shapes with up to so many cells."""
    return [shape for shape in pieces_up_to(many) if shape.is_whole]
