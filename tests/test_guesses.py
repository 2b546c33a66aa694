import itertools
import random

from shovefloors import guesses as module
from shovefloors.errors import InvalidCells, InvalidLattice, InvalidShapes
from shovefloors.guesses import fitting, shapes_by
from shovefloors.lattices import is_filled, rest
from shovefloors.shapes import Shape
from tests.support import (FAR_NUMBERS, NO_LATTICES, NO_PAIRS, NO_SHAPES, NO_TUPLES, Case, Plain, all_lattices,
                           shapes_within)

ANGLE, BAR, CROSS = Shape.read("#.\n##"), Shape(((4, 7), (5, 7), (6, 7))), Shape.read(".#.\n###\n.#.")
TEE, BOWL, GAP = Shape.read("###\n.#."), Shape.read("#.#\n###"), Shape.read("#.#")
ROW = tuple([(x, 0) for x in range(24)])
BLOCK = tuple(itertools.product(range(4), range(3)))
WRONG = Plain()


def count_shapes(lattice, cells):
    """How many choices of cells there are that are shapes which fill by a lattice."""
    many = lattice[0] * lattice[2]
    return sum([is_filled(Shape(chosen), lattice) for chosen in itertools.combinations(cells, many)])


class TestFitting(Case):
    def test_against_each_shape_by_itself(self):
        shapes = shapes_within(3, 2) + [CROSS, BOWL, TEE, BAR.quarter()]
        for at in range(0, len(shapes), 9):
            passed = tuple(shapes[at:at + 20])
            for lattice in all_lattices(6, 4):
                wanted = [index for index, shape in enumerate(passed) if is_filled(shape, lattice)]
                self.assert_same(fitting(passed, lattice), tuple(wanted))

    def test_none_at_all_and_twenty(self):
        self.assert_same(fitting((), (3, 2, 1)), ())
        self.assert_same(fitting((ANGLE,) * 20, (3, 2, 1)), tuple(range(20)))
        self.assert_same(fitting((BOWL,) * 19 + (BAR,), (3, 2, 1)), (19,))
        self.assert_same(fitting((BOWL, GAP), (100, 99, 100)), ())

    def test_wrong_shapes(self):
        for wrong in NO_SHAPES:
            for at in (0, 1, 19):
                self.assert_index(InvalidShapes, at, fitting, (ANGLE,) * at + (wrong, None), (3, 2, 1))
                self.assert_index(InvalidShapes, at, fitting, (ANGLE,) * at + (wrong,) + (BAR,) * 30, None)

    def test_twenty_first(self):
        for many in (21, 22, 40):
            self.assert_index(InvalidShapes, 20, fitting, (BAR,) * many, (3, 2, 1))
        self.assert_index(InvalidShapes, 20, fitting, (BAR,) * 20 + (None,), None)

    def test_no_tuples(self):
        for wrong in NO_TUPLES + [[ANGLE, BAR], {ANGLE.cells: ANGLE}, ANGLE, [ANGLE] * 21]:
            self.assert_index(InvalidShapes, None, fitting, wrong, (3, 2, 1))
            self.assert_index(InvalidShapes, None, fitting, wrong, None)

    def test_wrong_lattices_behind_the_shapes(self):
        for wrong in NO_LATTICES:
            self.assert_given(InvalidLattice, wrong, fitting, (ANGLE, BAR), wrong)
            self.assert_given(InvalidLattice, wrong, fitting, (), wrong)

    def test_by_name(self):
        self.assertEqual(fitting(lattice=(3, 2, 1), shapes=(ANGLE, BAR, GAP)), (0, 1))
        self.assert_index(InvalidShapes, None, fitting, lattice=None, shapes=None)
        self.assert_given(InvalidLattice, WRONG, fitting, lattice=WRONG, shapes=())


class TestShapesBy(Case):
    def test_against_all_choices_of_cells(self):
        choices = [BLOCK, BLOCK[::-1], BLOCK[:5], ROW[:9], ((0, 0),), ((0, 0), (1, 0)), ((-1000, 1000), (1000, -1000))]
        generator = random.Random(5)
        for _ in range(12):
            places = list(itertools.product(range(-5, 6), range(-3, 4)))
            choices.append(tuple(generator.sample(places, generator.randrange(1, 13))))
        found_some = 0
        for cells in choices:
            for lattice in all_lattices(4, 4):
                if lattice[0] * lattice[2] <= 6:
                    wanted = count_shapes(lattice, cells)
                    found_some += wanted > 1
                    self.assert_same(shapes_by(lattice, cells), wanted)
        self.assertGreater(found_some, 100)

    def test_cells_far_apart_with_the_same_rest(self):
        cells = ((0, 0), (1000, -1000), (-1000, 1000), (999, 0), (-999, 2), (5, 1))
        for lattice in all_lattices(5, 3):
            if lattice[0] * lattice[2] <= 6:
                self.assertEqual(shapes_by(lattice, cells), count_shapes(lattice, cells))
        self.assertEqual(shapes_by((2, 0, 1), ((1000, 5), (-1000, 9), (-999, 1000), (999, -1000), (0, 0))), 6)

    def test_shapes_that_lie_elsewhere_count_apart(self):
        self.assertEqual(shapes_by((1, 0, 1), ROW), 24)
        self.assertEqual(shapes_by((2, 0, 1), ROW), 144)
        self.assertEqual(shapes_by((3, 0, 1), ROW), 512)
        self.assertEqual(shapes_by((12, 5, 1), ROW), 2 ** 12)
        self.assertEqual(shapes_by((8, 3, 1), ROW), 3 ** 8)

    def test_fewer_rests_than_cells_of_such_a_shape(self):
        self.assert_same(shapes_by((3, 2, 1), ((0, 0), (1, 0))), 0)
        self.assert_same(shapes_by((3, 2, 1), ((0, 0), (1, 0), (3, 0), (4, 0), (-2, 0))), 0)
        self.assert_same(shapes_by((24, 0, 1), ROW[1:]), 0)
        self.assert_same(shapes_by((1, 0, 2), ROW), 0)

    def test_up_to_twenty_four(self):
        for wide in range(1, 25):
            if 24 % wide == 0:
                for slip in range(wide):
                    lattice = (wide, slip, 24 // wide)
                    same = len({rest(lattice, cell) for cell in ROW}) == 24
                    self.assert_same(shapes_by(lattice, ROW), 1 if same else 0)
        self.assertEqual(shapes_by((6, 1, 4), tuple(itertools.product(range(6), range(4)))), 1)

    def test_more_than_twenty_four(self):
        for lattice in ((25, 0, 1), (1, 0, 25), (5, 2, 5), (13, 12, 2), (100, 0, 1), (1, 0, 100), (100, 99, 100)):
            self.assert_given(InvalidLattice, lattice, shapes_by, lattice, ROW)
            self.assert_given(InvalidLattice, lattice, shapes_by, lattice, None)

    def test_wrong_lattices(self):
        for wrong in NO_LATTICES:
            self.assert_given(InvalidLattice, wrong, shapes_by, wrong, ROW)
            self.assert_given(InvalidLattice, wrong, shapes_by, wrong, None)

    def test_wrong_cells(self):
        for wrong in NO_TUPLES + [()]:
            self.assert_index(InvalidCells, None, shapes_by, (3, 2, 1), wrong)
        for wrong in NO_PAIRS + [(1001, 0), (0, -1001), (10 ** 79, 0)]:
            self.assert_index(InvalidCells, 0, shapes_by, (3, 2, 1), (wrong,))
            self.assert_index(InvalidCells, 2, shapes_by, (3, 2, 1), ((0, 0), (1, 0), wrong, (0, 0)))
        for number in FAR_NUMBERS:
            if abs(number) > 1000:
                self.assert_index(InvalidCells, 1, shapes_by, (1, 0, 1), ((0, 0), (0, number), None))
        self.assert_index(InvalidCells, 1, shapes_by, (3, 2, 1), ((0, 0), (0, 0)))
        self.assert_index(InvalidCells, 24, shapes_by, (3, 2, 1), ROW + ((0, 1),))
        self.assert_index(InvalidCells, 24, shapes_by, (3, 2, 1), ROW + ROW)

    def test_numbers_of_a_thousand_are_right(self):
        self.assertEqual(shapes_by((1, 0, 1), ((1000, 1000), (-1000, -1000), (1000, -1000))), 3)

    def test_by_name(self):
        self.assertEqual(shapes_by(cells=((0, 0), (1, 0), (2, 0)), lattice=(2, 0, 1)), 2)
        self.assert_given(InvalidLattice, WRONG, shapes_by, cells=None, lattice=WRONG)
        self.assert_index(InvalidCells, None, shapes_by, cells=None, lattice=(2, 0, 1))


class TestInterface(Case):
    def test_defined_here(self):
        for function in (fitting, shapes_by):
            self.assertEqual(function.__module__, module.__name__)

    def test_equal_calls_and_what_is_passed_stays(self):
        shapes, cells = (ANGLE, BAR, GAP), ((5, 5), (0, 0), (1, 0))
        self.assertEqual(fitting(shapes, (3, 2, 1)), fitting(shapes, (3, 2, 1)))
        self.assertEqual(shapes_by((2, 0, 1), cells), shapes_by((2, 0, 1), cells))
        self.assertEqual((shapes, cells), ((ANGLE, BAR, GAP), ((5, 5), (0, 0), (1, 0))))

    def test_examples(self):
        self.assert_same(
            [fitting((ANGLE, BAR, GAP), (3, 2, 1)), fitting((), (1, 0, 1)),
             shapes_by((2, 0, 1), ((0, 0), (1, 0), (2, 0))), shapes_by((3, 2, 1), ((0, 0), (1, 0)))],
            [(0, 1), (), 2, 0])
