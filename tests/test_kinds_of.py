import itertools

from shovefloors import kinds_of as module
from shovefloors.errors import InvalidNumber
from shovefloors.kinds_of import fillers, stuck_shapes, whole_shapes
from shovefloors.lattices import lattices
from shovefloors.shapes import Shape
from shovefloors.walks import cuts
from tests.support import NO_INTEGERS, Case, told_anew

BOWL, CROSS, TEE = Shape.read("#.#\n###"), Shape.read(".#.\n###\n.#."), Shape.read("###\n.#.")
HOW_MANY = {1: 1, 2: 2, 3: 6, 4: 19, 5: 63, 6: 216}
NO_NUMBERS = [0, -1, -6, 7, 8, 24, 10 ** 79, -10 ** 79] + NO_INTEGERS


def reached(cells, start):
    """Those of some cells to which one can come from one of them."""
    found, queue = {start}, [start]
    while queue:
        x, y = queue.pop()
        for cell in ((x + 1, y), (x - 1, y), (x, y + 1), (x, y - 1)):
            if cell in cells and cell not in found:
                found.add(cell)
                queue.append(cell)
    return found


def is_whole(cells, many):
    """Whether some cells of a block of so many columns and lines are a whole shape."""
    around = set(itertools.product(range(-1, many + 1), range(-1, many + 1))) - set(cells)
    return reached(set(cells), cells[0]) == set(cells) and reached(around, (-1, -1)) == around


def all_whole(many):
    """The cells of all whole shapes with so many, found by looking at each set of cells of a block."""
    block = list(itertools.product(range(many), range(many)))
    found = set()
    for cells in itertools.combinations(block, many):
        # A shape that lies elsewhere in the block is met again where it begins at its sides.
        if cells[0][0] == 0 and min([y for x, y in cells]) == 0 and is_whole(cells, many):
            found.add(cells)
    return sorted(found)


class TestKinds(Case):
    def test_against_all_sets_of_cells(self):
        for many in range(1, 6):
            self.assert_same([shape.cells for shape in whole_shapes(many)], all_whole(many))

    def test_how_many(self):
        for many, wanted in HOW_MANY.items():
            found = whole_shapes(many)
            self.assertIs(found.__class__, tuple)
            self.assertEqual(len(found), wanted)
            self.assertEqual([len(shape) for shape in found], [many] * wanted)
            self.assertTrue(all([shape.is_whole for shape in found]))

    def test_ascending_by_their_cells(self):
        for many in HOW_MANY:
            for call in (whole_shapes, fillers, stuck_shapes):
                found = [shape.cells for shape in call(many)]
                self.assertEqual(found, sorted(set(found)))

    def test_six_cells_are_all_that_grow_from_five(self):
        found = {told_anew(shape.cells + ((x + a, y + b),)) for shape in whole_shapes(5) for x, y in shape.cells
                 for a, b in ((1, 0), (-1, 0), (0, 1), (0, -1)) if (x + a, y + b) not in shape.cells}
        self.assertEqual([shape.cells for shape in whole_shapes(6)], sorted(found))

    def test_fillers_and_stuck_shapes_are_all_of_them(self):
        for many in HOW_MANY:
            filling, stuck = fillers(many), stuck_shapes(many)
            self.assertIs(filling.__class__, tuple)
            self.assertIs(stuck.__class__, tuple)
            for shape in whole_shapes(many):
                self.assertIs(shape in filling, len(lattices(shape)) > 0)
                self.assertIs(shape in stuck, len(lattices(shape)) == 0)
            self.assertEqual(len(filling) + len(stuck), HOW_MANY[many])

    def test_fillers_are_those_with_a_cut(self):
        for many in HOW_MANY:
            self.assertEqual(fillers(many), tuple([shape for shape in whole_shapes(many) if cuts(shape)]))

    def test_few_cells(self):
        for many in range(1, 5):
            self.assertEqual(fillers(many), whole_shapes(many))
            self.assertEqual(stuck_shapes(many), ())
        self.assertEqual([str(shape) for shape in whole_shapes(2)], ["#\n#", "##"])
        self.assertEqual([str(shape) for shape in whole_shapes(3)], ["#\n#\n#", "##\n#.", "#.\n##", "##\n.#", "###", ".#\n##"])
        self.assertIn(TEE, fillers(4))
        self.assertIn(BOWL, stuck_shapes(5))
        self.assertNotIn(CROSS, stuck_shapes(5))

    def test_turned_and_flipped_ones_are_among_them(self):
        for many in HOW_MANY:
            found = whole_shapes(many)
            for shape in found:
                self.assertIn(shape.quarter(), found)
                self.assertIn(shape.flipped(), found)

    def test_wrong_numbers(self):
        for wrong in NO_NUMBERS:
            for call in (whole_shapes, fillers, stuck_shapes):
                self.assert_given(InvalidNumber, wrong, call, wrong)
                self.assert_given(InvalidNumber, wrong, call, many=wrong)


class TestInterface(Case):
    def test_defined_here(self):
        for function in (whole_shapes, fillers, stuck_shapes):
            self.assertEqual(function.__module__, module.__name__)

    def test_by_name_and_equal_calls(self):
        for call in (whole_shapes, fillers, stuck_shapes):
            self.assertEqual(call(many=5), call(5))

    def test_examples(self):
        self.assert_same(
            [len(whole_shapes(3)), len(fillers(3)), len(whole_shapes(4)), len(fillers(4)), len(whole_shapes(5)),
             BOWL in stuck_shapes(5), CROSS in fillers(5)],
            [6, 6, 19, 19, 63, True, True])
