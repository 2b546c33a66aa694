import itertools

from shovefloors import turning as module
from shovefloors.errors import InvalidCell, InvalidLattice, NotAShape, TooGreat
from shovefloors.lattices import lattices
from shovefloors.shapes import Shape
from shovefloors.turning import floor_copy, is_turned_floor, turned_floors
from tests.support import (FAR_NUMBERS, NO_PAIRS, NO_SHAPES, Case, Plain, holds_once, pieces_up_to, shapes_within,
                           shoves_of)

ANGLE, BAR, CROSS = Shape.read("#.\n##"), Shape(((4, 7), (5, 7), (6, 7))), Shape.read(".#.\n###\n.#.")
TEE, BOWL, GAP = Shape.read("###\n.#."), Shape.read("#.#\n###"), Shape.read("#.#")
ONE = Shape(((0, 0),))
TWELVE = Shape(tuple([(x, 0) for x in range(12)]))
THIRTEEN = Shape(tuple([(x, 0) for x in range(13)]))
BOX = Shape(tuple(itertools.product(range(6), range(4))))
FAR = Shape(((-1000, -1000), (1000, 999)))
WRONG = Plain()


def tuples_with(shape):
    """All tuples that can be turned floors as far as the number of cells goes, and more of them."""
    many = 2 * len(shape)
    return [(w, s, h, c, d) for w in range(1, many + 1) for s in range(w) for h in range(1, many + 1)
            if w * h == many for c in range(w) for d in range(h)]


def both_copies(shape, floor, far):
    """For each cell near the shape how it is held: the index, whether the copy is turned, and the shove."""
    wide, slip, high, c, d = floor
    found = {}
    for a, b in shoves_of((wide, slip, high), far):
        for index, (x, y) in enumerate(shape.cells):
            found.setdefault((x + a, y + b), []).append((index, False, (a, b)))
            found.setdefault((c - x + a, d - y + b), []).append((index, True, (a, b)))
    return found


def laid_out(shape, floor):
    """Whether the copies and the turned ones, laid out one by one, hold each cell of a block just once."""
    wide, _, high = floor[:3]
    held = both_copies(shape, floor, 2 * max(shape.wide, shape.high) + 2 * high + 3)
    return holds_once([cell for cell in held for _ in held[cell]], list(itertools.product(range(wide), range(high))))


class TestTurnedFloors(Case):
    def test_against_copies_laid_out(self):
        for shape in shapes_within(2, 2) + [BAR, GAP, BAR.quarter()]:
            found = [floor for floor in tuples_with(shape) if laid_out(shape, floor)]
            self.assert_same(turned_floors(shape), tuple(found))

    def test_all_tuples_and_no_other_one(self):
        for shape in shapes_within(3, 2) + pieces_up_to(5) + [FAR, Shape.read("#..#.\n....#")]:
            found = []
            for floor in tuples_with(shape):
                wide, slip, high, c, d = floor
                cells = list(shape.cells) + [(c - x, d - y) for x, y in shape.cells]
                rests = {((x - slip * (y // high)) % wide, y % high) for x, y in cells}
                if len(rests) == wide * high:
                    found.append(floor)
            self.assert_same(turned_floors(shape), tuple(found))
            self.assertEqual(found, sorted(set(found)))

    def test_one_cell(self):
        self.assertEqual(turned_floors(ONE), ((1, 0, 2, 0, 1), (2, 0, 1, 1, 0), (2, 1, 1, 1, 0)))

    def test_two_cells_with_a_gap(self):
        # It fills by no lattice, but together with its half turn it does.
        self.assertEqual(lattices(GAP), ())
        self.assertEqual(turned_floors(GAP), tuple([(4, slip, 1, c, 0) for slip in range(4) for c in (1, 3)]))

    def test_shapes_that_fill_only_so_or_not_at_all(self):
        self.assertEqual(lattices(BOWL), ())
        self.assertEqual(turned_floors(BOWL),
                         ((10, 3, 1, 3, 0), (10, 4, 1, 1, 0), (10, 6, 1, 3, 0), (10, 7, 1, 1, 0)))
        self.assertEqual(turned_floors(Shape.read("###\n#.#\n###")), ())
        self.assertEqual(turned_floors(Shape.read(".##\n#.#\n###")), ())

    def test_twelve_cells_and_thirteen(self):
        found = turned_floors(TWELVE)
        self.assertIn((24, 5, 1, 23, 0), found)
        self.assertIn((12, 11, 2, 0, 1), found)
        self.assertNotIn((12, 11, 2, 0, 0), found)
        self.assertEqual(list(found), sorted(set(found)))
        for shape in (THIRTEEN, BOX, Shape(tuple([(0, y) for y in range(14)]))):
            self.assert_number(TooGreat, len(shape), turned_floors, shape)

    def test_wrong_shapes(self):
        for wrong in NO_SHAPES:
            self.assert_given(NotAShape, wrong, turned_floors, wrong)
            self.assert_given(NotAShape, wrong, turned_floors, shape=wrong)

    def test_by_name(self):
        self.assertEqual(len(turned_floors(shape=ONE)), 3)


NO_FLOORS = [
    None, True, False, 0, 5, "", "30221", b"30221", [], (), {}, {3: 0}, {3}, frozenset(), range(5), Plain(), ANGLE,
    Shape, len, [3, 0, 2, 2, 1], (3, 0, 2, 2), (3, 0, 2), (3, 0, 2, 2, 1, 0), ((3, 0, 2), 2, 1), ((3, 0, 2, 2, 1),),
    [(3, 0, 2, 2, 1)], (None, 0, 2, 2, 1), (3, None, 2, 2, 1), (3, 0, None, 2, 1), (3, 0, 2, None, 1),
    (3, 0, 2, 2, None),
    ("3", 0, 2, 2, 1), (3, 0, 2, 2, "1"), (3, False, 2, 2, 1), (3, 0, 2, 2, True), ([3], 0, 2, 2, 1), (3, 0, 2, 2, [1]),
    (3, 0, 2, (2,), 1), (Plain(), 0, 2, 2, 1), (3, 0, 2, Plain(), 1), (3, 0, 2, 2, Plain()),
    (Plain(), Plain(), Plain(), Plain(), Plain()), (3, 0, 2, -1, 1), (3, 0, 2, 2, -1), (3, 0, 2, 5, 1), (3, 0, 2, 2, 3),
    (3, 0, 2, 3, 1), (3, 0, 2, 2, 2), (3, 3, 2, 2, 1), (3, -1, 2, 2, 1), (3, -3, 2, 2, 1), (0, 0, 2, 0, 1),
    (-3, 0, -2, 2, 1), (-3, -2, -2, -1, -1), (3, 0, 0, 2, 0), (3, 0, 2, 1, 1), (3, 0, 1, 2, 0), (6, 0, 2, 2, 1),
    (3, 0, 2, 10 ** 79, 1), (10 ** 79, 0, 2, 2, 1), (3, 10 ** 79, 2, 2, 1), (3, 0, 10 ** 79, 2, 1),
    (3, 0, 2, 2, -10 ** 79),
    ((((((((3,),),),),),),), 0, 2, 2, 1), (3, 0, 2, 2, {1: [2]}), (100, 0, 100, 2, 1)]


class TestIsTurnedFloor(Case):
    def test_all_tuples(self):
        for shape in shapes_within(3, 1) + [ANGLE, TEE, BOWL, CROSS, FAR]:
            found = turned_floors(shape)
            for floor in tuples_with(shape):
                self.assertIs(is_turned_floor(shape, floor), floor in found)

    def test_beyond_the_numbers_of_the_half_turn(self):
        for shape in (ONE, ANGLE, GAP):
            for wide, slip, high, c, d in turned_floors(shape):
                for floor in ((wide, slip, high, c + wide, d), (wide, slip, high, c - wide, d),
                              (wide, slip, high, c, d + high), (wide, slip, high, c, d - high),
                              (wide, slip + wide, high, c, d), (wide, slip - wide, high, c, d)):
                    self.assertIs(is_turned_floor(shape, floor), False)

    def test_values_of_any_kind(self):
        self.assertIs(is_turned_floor(ANGLE, (3, 0, 2, 2, 1)), True)
        deep = ()
        for _ in range(20):
            deep = (deep,)
        for wrong in NO_FLOORS + [deep]:
            self.assertIs(is_turned_floor(ANGLE, wrong), False)
            self.assertIs(is_turned_floor(BOX, wrong), False)
            self.assertIs(is_turned_floor(ONE, wrong), False)

    def test_truths_beside_the_same_numbers(self):
        self.assertIs(is_turned_floor(ONE, (2, 1, 1, 1, 0)), True)
        for wrong in ((2, True, 1, 1, 0), (2, 1, True, 1, 0), (2, 1, 1, True, 0), (2, 1, 1, 1, False), [2, 1, 1, 1, 0]):
            self.assertIs(is_turned_floor(ONE, wrong), False)

    def test_more_than_twelve_cells(self):
        self.assertIs(is_turned_floor(THIRTEEN, (13, 4, 2, 0, 1)), True)
        self.assertIs(is_turned_floor(THIRTEEN, (13, 4, 2, 0, 0)), False)
        self.assertIs(is_turned_floor(THIRTEEN, (26, 25, 1, 25, 0)), True)
        self.assertIs(is_turned_floor(THIRTEEN, (26, 25, 1, 24, 0)), False)
        self.assertIs(is_turned_floor(BOX, (6, 5, 8, 5, 7)), True)
        self.assertIs(is_turned_floor(BOX, (6, 5, 8, 5, 6)), False)
        self.assertIs(is_turned_floor(BOX, (12, 0, 4, 11, 3)), True)
        self.assertIs(is_turned_floor(BOX, (6, 5, 4, 5, 3)), False)
        for shape in (THIRTEEN, Shape(BOX.cells[:14])):
            for floor in tuples_with(shape):
                wide, slip, high, c, d = floor
                cells = list(shape.cells) + [(c - x, d - y) for x, y in shape.cells]
                rests = {((x - slip * (y // high)) % wide, y % high) for x, y in cells}
                self.assertIs(is_turned_floor(shape, floor), len(rests) == wide * high)

    def test_wrong_shapes(self):
        for wrong in NO_SHAPES:
            self.assert_given(NotAShape, wrong, is_turned_floor, wrong, (1, 0, 2, 0, 1))
            self.assert_given(NotAShape, wrong, is_turned_floor, wrong, None)

    def test_by_name(self):
        self.assertIs(is_turned_floor(floor=(1, 0, 2, 0, 1), shape=ONE), True)
        self.assert_given(NotAShape, None, is_turned_floor, floor=None, shape=None)


FLOORS = [(shape, floor) for shape in (ONE, ANGLE, GAP, Shape.read("##")) for floor in turned_floors(shape)]
FLOORS += [(shape, floor) for shape in (BAR, TEE, BOWL, CROSS, Shape.read("#..#.\n....#"))
           for floor in turned_floors(shape)[::3]]


class TestFloorCopy(Case):
    def test_each_cell_near_the_shape(self):
        self.assertGreater(len(FLOORS), 40)
        for shape, floor in FLOORS:
            held = both_copies(shape, floor, 2 * max(shape.wide, shape.high) + 12)
            for cell in itertools.product(range(-3, 6), range(-4, 5)):
                self.assertEqual(len(held[cell]), 1)
                self.assert_same(floor_copy(shape, floor, cell), held[cell][0])

    def test_cells_of_the_shape_and_of_its_half_turn(self):
        for shape, floor in FLOORS:
            c, d = floor[3:]
            for index, (x, y) in enumerate(shape.cells):
                self.assert_same(floor_copy(shape, floor, (x, y)), (index, False, (0, 0)))
                self.assert_same(floor_copy(shape, floor, (c - x, d - y)), (index, True, (0, 0)))

    def test_very_far_away(self):
        for shape, floor in FLOORS:
            wide, slip, high, c, d = floor
            for a, b in ((10 ** 30, 10 ** 30), (-10 ** 30, 7), (-3, -10 ** 30 - 1), (FAR_NUMBERS[-1], FAR_NUMBERS[-2])):
                shove = (a * wide + b * slip, b * high)
                for index, (x, y) in enumerate(shape.cells):
                    cell = (x + shove[0], y + shove[1])
                    self.assert_same(floor_copy(shape, floor, cell), (index, False, shove))
                    cell = (c - x + shove[0], d - y + shove[1])
                    self.assert_same(floor_copy(shape, floor, cell), (index, True, shove))

    def test_more_than_twelve_cells(self):
        self.assertEqual(floor_copy(BOX, (12, 0, 4, 11, 3), (11, 3)), (0, True, (0, 0)))
        self.assertEqual(floor_copy(BOX, (12, 0, 4, 11, 3), (-1, -1)), (0, True, (-12, -4)))
        self.assertEqual(floor_copy(BOX, (12, 0, 4, 11, 3), (17, 7)), (23, False, (12, 4)))

    def test_wrong_arguments_in_their_order(self):
        for wrong in NO_SHAPES:
            self.assert_given(NotAShape, wrong, floor_copy, wrong, None, None)
        for wrong in NO_FLOORS:
            self.assert_given(InvalidLattice, wrong, floor_copy, ANGLE, wrong, (0, 0))
            self.assert_given(InvalidLattice, wrong, floor_copy, ANGLE, wrong, None)
        for wrong in NO_PAIRS:
            self.assert_given(InvalidCell, wrong, floor_copy, ANGLE, (3, 0, 2, 2, 1), wrong)

    def test_by_name(self):
        self.assertEqual(floor_copy(cell=(7, 5), floor=(3, 0, 2, 2, 1), shape=ANGLE), (2, False, (6, 4)))
        self.assert_given(NotAShape, None, floor_copy, cell=None, floor=None, shape=None)
        self.assert_given(InvalidLattice, WRONG, floor_copy, cell=None, floor=WRONG, shape=ANGLE)


class TestInterface(Case):
    def test_defined_here(self):
        for function in (turned_floors, is_turned_floor, floor_copy):
            self.assertEqual(function.__module__, module.__name__)

    def test_equal_calls_and_the_shape_stays(self):
        cells = ANGLE.cells
        self.assertEqual(turned_floors(ANGLE), turned_floors(ANGLE))
        self.assertEqual(ANGLE.cells, cells)

    def test_examples(self):
        self.assert_same(
            [turned_floors(Shape(((0, 0),))), is_turned_floor(BOWL, (5, 0, 2, 2, 3)),
             is_turned_floor(ANGLE, (3, 0, 2, 1, 1)), is_turned_floor(ANGLE, (3, 0, 2, 2, 1))],
            [((1, 0, 2, 0, 1), (2, 0, 1, 1, 0), (2, 1, 1, 1, 0)), False, False, True])
        self.assert_same(
            [floor_copy(ANGLE, (3, 0, 2, 2, 1), (7, 5)), floor_copy(ANGLE, (3, 0, 2, 2, 1), (-1, 0))],
            [(2, False, (6, 4)), (1, True, (-3, 0))])
