import itertools

from shovefloors import places as module
from shovefloors.errors import InvalidCell, InvalidCells, InvalidLattice, InvalidNumber, NotAShape, NotFilled
from shovefloors.lattices import lattices
from shovefloors.places import are_fine, cells_at, copy_at, least_hues, line_at, neighbours
from shovefloors.shapes import Shape
from tests.support import (FAR_NUMBERS, NO_LATTICES, NO_PAIRS, NO_SHAPES, NO_TUPLES, Case, Plain, shapes_within,
                           shoves_of)

ANGLE, BAR, CROSS = Shape.read("#.\n##"), Shape(((4, 7), (5, 7), (6, 7))), Shape.read(".#.\n###\n.#.")
TEE, BOWL, GAP = Shape.read("###\n.#."), Shape.read("#.#\n###"), Shape.read("#.#")
ONE = Shape(((0, 0),))
SCATTERED = Shape.read("#....\n...#.\n.....\n.#..#")
SHAPES = [ONE, ANGLE, BAR, CROSS, TEE, BAR.quarter(), Shape.read("##\n##"), Shape.read("#..#"), Shape.read("#.\n.#"),
          Shape.read("##.\n..#"), SCATTERED, Shape.read("#.#.#"), Shape.read("##.\n.##"), Shape.read("###...\n...###")]
FILLED = [(shape, lattice) for shape in SHAPES for lattice in lattices(shape)]
# Its copies lie beside those that are 1, 720, 1748, 1768 and 1848 columns away, so that each k up to 24 has a multiple.
COMB = Shape(tuple([(x, y) for y, x in enumerate([-1000, 848, -920, 828] + [108] * 20)]))
COMB_LATTICE = (1, 0, 24)
NOT_FILLED = [(GAP, (2, 0, 1)), (GAP, (2, 1, 1)), (ANGLE, (3, 1, 1)), (ANGLE, (4, 0, 1)), (ONE, (2, 0, 1)),
              (BAR, (1, 0, 3)), (CROSS, (100, 0, 100)), (BOWL, (5, 2, 1)), (TEE, (2, 0, 2))]
WRONG = Plain()


def copies_of(shape, lattice, far):
    """For cells around the shape all shoves, with how many times the two of the lattice are taken, that hold them."""
    found = {}
    for shove, times in shoves_of(lattice, far).items():
        for x, y in shape.cells:
            found.setdefault((x + shove[0], y + shove[1]), []).append((shove, times))
    return found


def far_enough(shape, more):
    """How many times the shoves of a lattice must be taken for all copies that come near the shape."""
    return (max(shape.wide, shape.high) + more) * 2


def pairs_beside(shape, lattice):
    """The shoves, and how often those of the lattice are taken, of all copies beside the shape, found one by one."""
    found = {}
    around = {(x + a, y + b) for x, y in shape.cells for a, b in ((1, 0), (-1, 0), (0, 1), (0, -1))}
    for cell, held in copies_of(shape, lattice, far_enough(shape, 3)).items():
        for shove, times in held:
            if cell in around and shove != (0, 0):
                found[shove] = times
    return found


class TestCopyAt(Case):
    def test_there_are_several_lattices_to_look_at(self):
        self.assertGreater(len(FILLED), 24)
        for shape in SHAPES:
            self.assertNotEqual(lattices(shape), ())

    def test_each_cell_near_the_shape_is_held_by_just_this_copy(self):
        for shape, lattice in FILLED:
            copies = copies_of(shape, lattice, far_enough(shape, 9))
            for cell in itertools.product(range(-4, 9), range(-4, 9)):
                self.assertEqual(len(copies[cell]), 1)
                self.assert_same(copy_at(shape, lattice, cell), copies[cell][0][0])

    def test_cells_of_the_shape(self):
        for shape, lattice in FILLED:
            for cell in shape.cells:
                self.assertEqual(copy_at(shape, lattice, cell), (0, 0))

    def test_very_far_away(self):
        for shape, lattice in FILLED:
            wide, slip, high = lattice
            for a, b in itertools.product(FAR_NUMBERS, FAR_NUMBERS):
                shove = (a * wide + b * slip, b * high)
                for x, y in shape.cells:
                    self.assertEqual(copy_at(shape, lattice, (x + shove[0], y + shove[1])), shove)

    def test_a_shape_that_reaches_far(self):
        for cell in ((0, 0), (5, 5), (-3000, 23), (10 ** 30, 24 * 10 ** 30 + 7)):
            shove = copy_at(COMB, COMB_LATTICE, cell)
            self.assertEqual(shove[1] % 24, 0)
            self.assertIn((cell[0] - shove[0], cell[1] - shove[1]), COMB.cells)

    def test_wrong_arguments(self):
        for wrong in NO_SHAPES:
            self.assert_given(NotAShape, wrong, copy_at, wrong, None, None)
        for wrong in NO_LATTICES:
            self.assert_given(InvalidLattice, wrong, copy_at, GAP, wrong, None)
        for wrong in NO_PAIRS:
            self.assert_given(InvalidCell, wrong, copy_at, GAP, (3, 2, 1), wrong)
        for shape, lattice in NOT_FILLED:
            self.assert_bare(NotFilled, copy_at, shape, lattice, (0, 0))

    def test_by_name(self):
        self.assertEqual(copy_at(cell=(10, 10), lattice=(3, 2, 1), shape=ANGLE), (9, 9))
        self.assert_given(NotAShape, None, copy_at, cell=None, lattice=None, shape=None)
        self.assert_given(InvalidLattice, WRONG, copy_at, cell=None, lattice=WRONG, shape=GAP)


class TestCellsAt(Case):
    def test_cells_brought_so_far(self):
        for shape, lattice in FILLED:
            wide, slip, high = lattice
            for a, b in itertools.product([-2, -1, 2, 10 ** 30, -10 ** 30], FAR_NUMBERS):
                shove = (a * wide + b * slip, b * high)
                found = cells_at(shape, lattice, shove)
                self.assert_same(found, tuple([(x + shove[0], y + shove[1]) for x, y in shape.cells]))
                self.assertEqual(list(found), sorted(found))
                for cell in found:
                    self.assertEqual(copy_at(shape, lattice, cell), shove)
            self.assertEqual(cells_at(shape, lattice, (0, 0)), shape.cells)

    def test_shoves_that_are_none_of_the_lattice(self):
        for shape, lattice in FILLED:
            shoves = shoves_of(lattice, 40)
            for x, y in itertools.product(range(-6, 7), range(-6, 7)):
                shove = (x, y)
                if shove in shoves:
                    self.assertEqual(len(cells_at(shape, lattice, shove)), len(shape))
                else:
                    self.assert_given(InvalidCell, shove, cells_at, shape, lattice, shove)
        for shove in ((10 ** 30, 0), (0, 10 ** 30), (1, 0), (10 ** 30, 1)):
            self.assert_given(InvalidCell, shove, cells_at, ANGLE, (3, 2, 1), shove)

    def test_wrong_arguments(self):
        for wrong in NO_SHAPES:
            self.assert_given(NotAShape, wrong, cells_at, wrong, None, None)
        for wrong in NO_LATTICES:
            self.assert_given(InvalidLattice, wrong, cells_at, GAP, wrong, None)
        for wrong in NO_PAIRS:
            self.assert_given(InvalidCell, wrong, cells_at, ANGLE, (3, 2, 1), wrong)
            self.assert_given(InvalidCell, wrong, cells_at, GAP, (3, 2, 1), wrong)
        for shape, lattice in NOT_FILLED:
            self.assert_bare(NotFilled, cells_at, shape, lattice, (0, 0))
            self.assert_bare(NotFilled, cells_at, shape, lattice, (lattice[0], 0))
            # It is none of the lattice, and this is told ahead.
            if lattice[0] > 1:
                shove = (1, 0)
                self.assert_given(InvalidCell, shove, cells_at, shape, lattice, shove)

    def test_by_name(self):
        self.assertEqual(cells_at(shove=(9, 9), lattice=(3, 2, 1), shape=ANGLE), ((9, 9), (9, 10), (10, 10)))
        self.assert_given(InvalidCell, WRONG, cells_at, shove=WRONG, lattice=(3, 2, 1), shape=GAP)


class TestNeighbours(Case):
    def test_against_all_copies(self):
        shapes = [(shape, lattice) for shape in shapes_within(3, 2) for lattice in lattices(shape)]
        for shape, lattice in FILLED + shapes:
            found = neighbours(shape, lattice)
            self.assert_same(found, tuple(sorted(pairs_beside(shape, lattice))))

    def test_without_itself_and_each_with_its_opposite(self):
        for shape, lattice in FILLED + [(COMB, COMB_LATTICE)]:
            found = neighbours(shape, lattice)
            self.assertNotIn((0, 0), found)
            self.assertEqual(len(found), len(set(found)))
            self.assertEqual([(-x, -y) for x, y in reversed(found)], list(found))

    def test_one_cell(self):
        self.assertEqual(neighbours(ONE, (1, 0, 1)), ((-1, 0), (0, -1), (0, 1), (1, 0)))

    def test_a_shape_that_reaches_far(self):
        found = neighbours(COMB, COMB_LATTICE)
        within = [x for x, y in found if y == 0 and x > 0]
        self.assertEqual(within, [1, 720, 1748, 1768, 1848])
        self.assertEqual([shove for shove in found if shove[1] > 0], [(1108, 24)])

    def test_wrong_arguments(self):
        for wrong in NO_SHAPES:
            for call in (neighbours, least_hues):
                self.assert_given(NotAShape, wrong, call, wrong, None)
        for wrong in NO_LATTICES:
            for call in (neighbours, least_hues):
                self.assert_given(InvalidLattice, wrong, call, GAP, wrong)
        for shape, lattice in NOT_FILLED:
            for call in (neighbours, least_hues):
                self.assert_bare(NotFilled, call, shape, lattice)

    def test_by_name(self):
        self.assertEqual(len(neighbours(lattice=(3, 1, 1), shape=BAR)), 6)
        self.assert_given(InvalidLattice, WRONG, neighbours, lattice=WRONG, shape=GAP)
        self.assertEqual(least_hues(lattice=(3, 1, 1), shape=BAR), 3)
        self.assert_given(InvalidLattice, WRONG, least_hues, lattice=WRONG, shape=GAP)


NO_HUES = NO_TUPLES + [
    (), (2,), (2, 1), (2, 1, 1, 1), [2, 1, 1], (None, 1, 1), (2, None, 1), (2, 1, None), ("2", 1, 1), (2, "1", 1),
    (2, 1, [1]), (2, 1, Plain()), (Plain(), 1, 1), (True, 0, 0), (2, True, 1), (2, 1, True), (2, False, 1),
    (2, 1, False), (1, 0, 0), (0, 0, 0), (-2, 0, 0), (-2, -1, -1), (25, 1, 1), (100, 1, 1), (10 ** 79, 1, 1), (2, 2, 1),
    (2, 1, 2), (2, -1, 1), (2, 1, -1), (24, 24, 1), (24, 1, 24), (3, 10 ** 79, 1), (3, 1, -10 ** 79),
    ((2, 1, 1),), (2, (1, 1)), (((2,),), 1, 1)]


class TestHues(Case):
    def assert_hues(self, shape, lattice, beside, hues):
        number, i, j = hues
        # From a copy on to all that lie beside it, wherever the copy is.
        told = [((a * i + b * j) % number, ((a + c) * i + (b + d) * j) % number)
                for a, b in ((0, 0), (1, -2), (-3, 1)) for c, d in beside]
        fine = all(one != two for one, two in told)
        self.assertIs(are_fine(shape, lattice, hues), fine)
        return fine

    def test_against_all_neighbours(self):
        for shape, lattice in FILLED:
            beside = list(pairs_beside(shape, lattice).values())
            least = None
            for number in range(2, 7):
                for i, j in itertools.product(range(number), range(number)):
                    if self.assert_hues(shape, lattice, beside, (number, i, j)) and least is None:
                        least = number
            self.assert_same(least_hues(shape, lattice), least)

    def test_chess_board(self):
        self.assertEqual(least_hues(ONE, (1, 0, 1)), 2)
        self.assertIs(are_fine(ONE, (1, 0, 1), (2, 1, 1)), True)
        for hues in ((2, 0, 1), (2, 1, 0), (2, 0, 0), (4, 2, 0), (24, 0, 1)):
            self.assertIs(are_fine(ONE, (1, 0, 1), hues), False)
        self.assertIs(are_fine(ONE, (1, 0, 1), (24, 23, 1)), True)
        self.assertIs(are_fine(ONE, (1, 0, 1), (24, 12, 12)), True)

    def test_bars(self):
        for many in range(2, 9):
            bar = Shape(tuple([(x, 0) for x in range(many)]))
            for slip in range(many):
                # In a grid each bar has four neighbours, with a slip it has six.
                self.assertEqual(least_hues(bar, (many, slip, 1)), 3 if slip else 2)

    def test_several_pieces(self):
        for shape, lattice, least in ((Shape.read("#..#"), (2, 0, 1), 3), (Shape.read("#.\n.#"), (2, 0, 1), 2),
                                      (SCATTERED, (4, 2, 1), 6)):
            self.assertEqual(least_hues(shape, lattice), least)

    def test_more_hues_than_can_be_passed(self):
        self.assertEqual(least_hues(COMB, COMB_LATTICE), 25)
        for number in range(2, 25):
            for i, j in itertools.product(range(number), range(number)):
                self.assertIs(are_fine(COMB, COMB_LATTICE, (number, i, j)), False)
        self.assert_index(InvalidCells, None, are_fine, COMB, COMB_LATTICE, (25, 1, 0))

    def test_wrong_arguments(self):
        for wrong in NO_SHAPES:
            self.assert_given(NotAShape, wrong, are_fine, wrong, None, None)
        for wrong in NO_LATTICES:
            self.assert_given(InvalidLattice, wrong, are_fine, GAP, wrong, None)
        for wrong in NO_HUES:
            self.assert_index(InvalidCells, None, are_fine, BAR, (3, 0, 1), wrong)
            self.assert_index(InvalidCells, None, are_fine, GAP, (3, 0, 1), wrong)
        for shape, lattice in NOT_FILLED:
            self.assert_bare(NotFilled, are_fine, shape, lattice, (2, 1, 1))
            self.assert_bare(NotFilled, are_fine, shape, lattice, (24, 0, 23))

    def test_by_name(self):
        self.assertIs(are_fine(hues=(3, 1, 2), lattice=(3, 1, 1), shape=BAR), True)
        self.assert_index(InvalidCells, None, are_fine, hues=None, lattice=(3, 1, 1), shape=GAP)


class TestLineAt(Case):
    def test_against_copies(self):
        for shape, lattice in FILLED:
            for cell in ((0, 0), (-7, 3), (10 ** 30, -10 ** 30), (-10 ** 30 - 1, 2)):
                found = line_at(shape, lattice, cell, 30)
                self.assertEqual(len(found), 30)
                for at, index in enumerate(found):
                    here = (cell[0] + at, cell[1])
                    self.assertIs(index.__class__, int)
                    self.assertEqual(cells_at(shape, lattice, copy_at(shape, lattice, here))[index], here)

    def test_it_comes_again_behind_w_cells(self):
        for shape, lattice in FILLED:
            wide = lattice[0]
            for cell in ((0, 0), (3, -5), (10 ** 30, 10 ** 30)):
                found = line_at(shape, lattice, cell, 100)
                self.assertEqual(found[wide:], found[:-wide])
                self.assertEqual(line_at(shape, lattice, (cell[0] + wide, cell[1]), 100), found)
                self.assertEqual(line_at(shape, lattice, (cell[0] - wide * 10 ** 30, cell[1]), 100), found)

    def test_how_many(self):
        whole = line_at(ANGLE, (3, 2, 1), (-4, 9), 100)
        for many in (0, 1, 2, 7, 99, 100):
            self.assert_same(line_at(ANGLE, (3, 2, 1), (-4, 9), many), whole[:many])
        self.assertEqual(line_at(ONE, (1, 0, 1), (5, 5), 100), (0,) * 100)

    def test_wrong_arguments(self):
        for wrong in NO_SHAPES:
            self.assert_given(NotAShape, wrong, line_at, wrong, None, None, None)
        for wrong in NO_LATTICES:
            self.assert_given(InvalidLattice, wrong, line_at, GAP, wrong, None, None)
        for wrong in NO_PAIRS:
            self.assert_given(InvalidCell, wrong, line_at, GAP, (3, 2, 1), wrong, None)
        for wrong in [-1, 101, True, False, None, 1000, -10 ** 79, 10 ** 79, "1", b"1", (), (1,), [1], {}, Plain()]:
            self.assert_given(InvalidNumber, wrong, line_at, ANGLE, (3, 2, 1), (0, 0), wrong)
            self.assert_given(InvalidNumber, wrong, line_at, GAP, (3, 2, 1), (0, 0), wrong)
        for shape, lattice in NOT_FILLED:
            for many in (0, 1, 100):
                self.assert_bare(NotFilled, line_at, shape, lattice, (0, 0), many)

    def test_by_name(self):
        self.assertEqual(line_at(many=5, cell=(0, 0), lattice=(3, 2, 1), shape=ANGLE), (0, 1, 2, 0, 1))
        self.assert_given(InvalidNumber, None, line_at, many=None, cell=(0, 0), lattice=(3, 2, 1), shape=GAP)


class TestInterface(Case):
    def test_defined_here(self):
        for function in (copy_at, cells_at, neighbours, are_fine, least_hues, line_at):
            self.assertEqual(function.__module__, module.__name__)

    def test_greatest_lattices_are_none_by_which_a_shape_fills_but_are_right(self):
        for lattice in ((100, 99, 100), (100, 0, 1), (1, 0, 100)):
            self.assert_bare(NotFilled, copy_at, ANGLE, lattice, (0, 0))
            self.assert_bare(NotFilled, cells_at, ANGLE, lattice, (0, 0))
            self.assert_bare(NotFilled, neighbours, ANGLE, lattice)
            self.assert_bare(NotFilled, are_fine, ANGLE, lattice, (2, 1, 1))
            self.assert_bare(NotFilled, least_hues, ANGLE, lattice)
            self.assert_bare(NotFilled, line_at, ANGLE, lattice, (0, 0), 1)

    def test_equal_calls(self):
        for call in (neighbours, least_hues):
            self.assertEqual(call(CROSS, (5, 2, 1)), call(CROSS, (5, 2, 1)))

    def test_examples(self):
        self.assert_same(
            [copy_at(ANGLE, (3, 2, 1), (10, 10)), cells_at(ANGLE, (3, 2, 1), (9, 9)), neighbours(BAR, (3, 0, 1)),
             neighbours(BAR, (3, 1, 1))],
            [(9, 9), ((9, 9), (9, 10), (10, 10)), ((-3, 0), (0, -1), (0, 1), (3, 0)),
             ((-3, 0), (-2, 1), (-1, -1), (1, 1), (2, -1), (3, 0))])
        self.assert_same(
            [least_hues(BAR, (3, 0, 1)), least_hues(BAR, (3, 1, 1)), are_fine(BAR, (3, 0, 1), (2, 1, 1)),
             are_fine(BAR, (3, 1, 1), (3, 1, 2)), are_fine(BAR, (3, 1, 1), (2, 1, 1)),
             line_at(ANGLE, (3, 2, 1), (0, 0), 5), line_at(ANGLE, (3, 2, 1), (10 ** 30, 1), 3)],
            [2, 3, True, True, False, (0, 1, 2, 0, 1), (2, 0, 1)])
