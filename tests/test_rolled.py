import itertools

from shovefloors import rolled as module
from shovefloors.errors import InvalidNumber, NotAShape, TooGreat
from shovefloors.lattices import lattices
from shovefloors.rolled import count_fillings, fillings, least_rolled
from shovefloors.shapes import Shape
from tests.support import NO_INTEGERS, NO_SHAPES, Case, pieces_up_to, shapes_within

ANGLE, BAR, CROSS = Shape.read("#.\n##"), Shape(((4, 7), (5, 7), (6, 7))), Shape.read(".#.\n###\n.#.")
TEE, BOWL, GAP = Shape.read("###\n.#."), Shape.read("#.#\n###"), Shape.read("#.#")
ONE = Shape(((0, 0),))
FAR = Shape(((-1000, -1000), (1000, 999)))
SCATTERED = [GAP, Shape.read("#\n.\n#"), Shape.read("#.\n.#"), Shape.read("#..#"), Shape.read("#.#\n.#."),
             Shape.read("#..#.\n....#"), Shape.read("##.##"), Shape(((0, 0), (7, 0), (0, 5))), FAR,
             Shape(((-1000, 0), (1000, 0))), Shape.read("#.#.#.#")]
FLOORS = [(wide, high) for wide in range(1, 37) for high in range(1, 37) if wide * high <= 36]
SMALL = [(wide, high) for wide, high in FLOORS if wide * high <= 8] + [(3, 3), (9, 1), (1, 9), (5, 2)]
NO_SIZES = [0, -1, -36, 37, 36 * 36, 10 ** 79, -10 ** 79] + NO_INTEGERS


def all_fillings(shape, wide, high):
    """All fillings, found by looking at each set of cells of the floor."""
    floor = list(itertools.product(range(wide), range(high)))
    found = []
    for many in range(1, len(floor) + 1):
        for places in itertools.combinations(floor, many):
            held = [((x + a) % wide, (y + b) % high) for a, b in places for x, y in shape.cells]
            if sorted(held) == floor:
                found.append(places)
    return tuple(sorted(found))


def led_round(filling, wide, high, across, along):
    """A filling moved around the floor."""
    return tuple(sorted([((x + across) % wide, (y + along) % high) for x, y in filling]))


class TestFillings(Case):
    def test_against_all_sets_of_cells(self):
        found_some = 0
        for shape in shapes_within(3, 2) + pieces_up_to(4) + SCATTERED + [CROSS, BOWL]:
            for wide, high in SMALL:
                if len(shape) > 4 and wide * high > 8:
                    continue
                wanted = all_fillings(shape, wide, high)
                found_some += len(wanted) > 0
                self.assert_same(fillings(shape, wide, high), wanted)
                self.assert_same(count_fillings(shape, wide, high), len(wanted))
        self.assertGreater(found_some, 150)

    def test_greater_floors_of_few_copies(self):
        for shape, wide, high in ((Shape.read("####"), 4, 3), (TEE, 4, 4), (ANGLE, 3, 4), (CROSS, 5, 5),
                                  (Shape.read("###\n###"), 6, 3), (Shape.read("#.#.\n.#.#"), 4, 4), (FAR, 3, 3),
                                  (Shape.read("##\n##"), 4, 4), (BOWL, 5, 3)):
            floor = list(itertools.product(range(wide), range(high)))
            found = []
            for places in itertools.combinations(floor, wide * high // len(shape)):
                held = {((x + a) % wide, (y + b) % high) for a, b in places for x, y in shape.cells}
                if len(held) == wide * high == len(places) * len(shape):
                    found.append(places)
            self.assert_same(fillings(shape, wide, high), tuple(found))

    def test_one_cell(self):
        for wide, high in FLOORS:
            self.assert_same(fillings(ONE, wide, high), (tuple(itertools.product(range(wide), range(high))),))

    def test_bars_on_floors_of_one_line_and_one_column(self):
        for many in range(2, 25):
            lying, upright = Shape(tuple([(x, 0) for x in range(many)])), Shape(tuple([(0, y) for y in range(many)]))
            for long in range(1, 37):
                wanted = many if long % many == 0 else 0
                self.assertEqual(count_fillings(lying, long, 1), wanted)
                self.assertEqual(count_fillings(upright, 1, long), wanted)
                self.assertEqual(fillings(upright, long, 1), ())
                self.assertEqual(fillings(lying, 1, long), ())

    def test_each_line_by_itself(self):
        for many, high in ((2, 5), (3, 4), (4, 3), (3, 5), (5, 3), (12, 3), (1, 30)):
            bar = Shape(tuple([(x, 0) for x in range(many)]))
            self.assertEqual(count_fillings(bar, many, high), many ** high)
            self.assertEqual(count_fillings(bar.quarter(), high, many), many ** high)

    def test_angles(self):
        self.assert_same(fillings(ANGLE, 3, 3), (
            ((0, 0), (1, 2), (2, 1)), ((0, 1), (1, 0), (2, 2)), ((0, 2), (1, 1), (2, 0))))
        self.assert_same(fillings(ANGLE, 3, 1), ())
        self.assert_same(fillings(ANGLE, 3, 2), ())

    def test_cells_that_come_round_several_times(self):
        for apart, wanted in ((36, 0), (37, 2), (1980, 0), (1979, 2), (1982, 4), (1986, 2 ** 6)):
            self.assertEqual(count_fillings(Shape(((-1000, 7), (apart - 1000, 7))), 36, 1), wanted)
            self.assertEqual(count_fillings(Shape(((7, -1000), (7, apart - 1000))), 1, 36), wanted)
        self.assertEqual(fillings(Shape(((0, 0), (9, 8))), 2, 4), fillings(Shape.read("##"), 2, 4))

    def test_a_copy_that_holds_a_cell_twice_is_none(self):
        for shape, wide, high in ((GAP, 2, 1), (GAP, 1, 2), (GAP, 2, 2), (BAR, 2, 3), (BAR, 1, 3), (ANGLE, 1, 3),
                                  (Shape.read("#..#"), 3, 2), (Shape.read("#\n.\n.\n#"), 2, 3), (ANGLE, 3, 1),
                                  (Shape.read("##\n##"), 1, 4), (FAR, 2, 1), (FAR, 1, 1)):
            self.assert_same(fillings(shape, wide, high), ())
            self.assert_same(count_fillings(shape, wide, high), 0)

    def test_ascending_and_each_once(self):
        for shape, wide, high in ((BAR, 3, 5), (ANGLE, 6, 6), (Shape.read("##"), 4, 6), (GAP, 4, 4), (GAP, 12, 3),
                                  (Shape.read("##\n##"), 6, 4)):
            found = fillings(shape, wide, high)
            self.assertGreater(len(found), 2)
            self.assertEqual(list(found), sorted(set(found)))
            for places in found:
                self.assertEqual(list(places), sorted(set(places)))

    def test_no_filling_for_other_numbers_of_cells(self):
        for shape in (BAR, ANGLE, CROSS, GAP):
            for wide, high in FLOORS:
                if wide * high % len(shape):
                    self.assert_same(fillings(shape, wide, high), ())

    def test_greatest_numbers_of_fillings(self):
        self.assertEqual(count_fillings(Shape.read("##"), 2, 18), 2 ** 18)
        self.assertEqual(count_fillings(Shape.read("#.#"), 36, 1), 4)


class TestMoved(Case):
    def test_by_lattices_whose_shoves_the_floor_has(self):
        seen = 0
        for shape in shapes_within(3, 2) + pieces_up_to(5) + SCATTERED:
            for wide, slip, high in lattices(shape):
                for across, along in FLOORS:
                    # The floor has all shoves of the lattice if those by which it comes round are of the lattice.
                    if across % wide == 0 and along % high == 0 and along // high * slip % wide == 0:
                        places = {((a * wide + b * slip) % across, b * high)
                                  for a in range(across // wide) for b in range(along // high)}
                        if across * along <= 18:
                            self.assertIn(tuple(sorted(places)), fillings(shape, across, along))
                            seen += 1
        self.assertGreater(seen, 200)

    def test_by_a_column_or_a_line(self):
        for shape, wide, high in ((BAR, 3, 4), (ANGLE, 3, 6), (ANGLE, 6, 6), (TEE, 4, 4), (CROSS, 5, 5), (GAP, 4, 3),
                                  (Shape.read("##"), 4, 4), (FAR, 4, 3)):
            found = fillings(shape, wide, high)
            for places in found:
                self.assertIn(led_round(places, wide, high, 1, 0), found)
                self.assertIn(led_round(places, wide, high, 0, 1), found)

    def test_columns_and_lines_exchanged(self):
        for shape in shapes_within(3, 2) + SCATTERED + [CROSS, BOWL]:
            other = Shape(tuple([(y - 1000, x - 1000) for x, y in shape.cells]))
            for wide, high in FLOORS:
                if wide * high <= 20:
                    found = {tuple(sorted([(y, x) for x, y in places])) for places in fillings(shape, wide, high)}
                    self.assertEqual(set(fillings(other, high, wide)), found)
                    self.assertEqual(count_fillings(other, high, wide), len(found))


class TestLeastRolled(Case):
    def test_against_all_floors(self):
        order = sorted(FLOORS, key=lambda floor: (floor[0] * floor[1], floor[0]))
        for shape in shapes_within(3, 2) + pieces_up_to(4) + SCATTERED + [CROSS, BOWL]:
            wanted = [floor for floor in order if floor[0] * floor[1] <= 20 and count_fillings(shape, *floor)]
            for most in range(1, 21):
                within = [floor for floor in wanted if floor[0] * floor[1] <= most]
                self.assert_same(least_rolled(shape, most), within[0] if within else None)

    def test_floors_of_up_to_thirty_six_cells(self):
        order = sorted(FLOORS, key=lambda floor: (floor[0] * floor[1], floor[0]))
        shapes = [CROSS, TEE, ANGLE, Shape.read("##\n##"), Shape.read("#..#..#"), Shape.read("##..#"),
                  Shape.read("###.#\n....#"), Shape(((0, 0), (32, 0))), Shape(((0, 0), (0, 17), (0, 34)))]
        for shape in shapes:
            wanted = [floor for floor in order if count_fillings(shape, *floor)]
            self.assert_same(least_rolled(shape, 36), wanted[0] if wanted else None)

    def test_most_of_one_and_of_thirty_six(self):
        self.assertEqual(least_rolled(ONE, 1), (1, 1))
        self.assertEqual(least_rolled(ONE, 36), (1, 1))
        for shape in (BAR, GAP, Shape.read("##"), CROSS):
            self.assertIsNone(least_rolled(shape, 1))
            self.assertIsNone(least_rolled(shape, len(shape) - 1))
        self.assertEqual(least_rolled(Shape(((0, 0), (18, 0))), 36), (4, 1))
        self.assertEqual(least_rolled(Shape(((0, 0), (16, 0))), 36), (32, 1))
        self.assertEqual(least_rolled(Shape(((0, 0), (0, 16))), 36), (1, 32))
        self.assertIsNone(least_rolled(Shape(((0, 0), (0, 16))), 31))

    def test_the_least_wide_of_several(self):
        self.assertEqual(least_rolled(Shape.read("#\n#"), 36), (1, 2))
        self.assertEqual(least_rolled(Shape.read("##"), 36), (2, 1))
        self.assertEqual(least_rolled(Shape.read("#.\n.#"), 36), (1, 2))
        self.assertEqual(least_rolled(CROSS, 36), (5, 5))

    def test_none(self):
        self.assertIsNone(least_rolled(BOWL, 36))
        self.assertIsNone(least_rolled(CROSS, 24))
        self.assertIsNone(least_rolled(Shape(((0, 0), (64, 0), (0, 64))), 8))


class TestErrors(Case):
    def test_no_shapes(self):
        for wrong in NO_SHAPES:
            for call in (fillings, count_fillings):
                self.assert_given(NotAShape, wrong, call, wrong, None, None)
            self.assert_given(NotAShape, wrong, least_rolled, wrong, None)

    def test_no_sizes(self):
        for wrong in NO_SIZES:
            for call in (fillings, count_fillings):
                self.assert_given(InvalidNumber, wrong, call, BAR, wrong, None)
                self.assert_given(InvalidNumber, wrong, call, BAR, wrong, 36)
                self.assert_given(InvalidNumber, wrong, call, BAR, 1, wrong)
                self.assert_given(InvalidNumber, wrong, call, BAR, 36, wrong)
            self.assert_given(InvalidNumber, wrong, least_rolled, BAR, wrong)

    def test_too_great_last(self):
        for wide in range(1, 37):
            for high in range(1, 37):
                if wide * high > 36:
                    self.assert_number(TooGreat, wide * high, fillings, CROSS, wide, high)
                    self.assert_number(TooGreat, wide * high, count_fillings, CROSS, wide, high)

    def test_thirty_six_cells_are_right(self):
        for wide, high in ((36, 1), (1, 36), (6, 6), (4, 9), (18, 2)):
            self.assertEqual(count_fillings(ONE, wide, high), 1)
            self.assertEqual(count_fillings(CROSS, wide, high), 0)
        self.assertEqual(fillings(BAR, 36, 1), tuple([tuple([(x, 0) for x in range(at, 36, 3)]) for at in range(3)]))


class TestInterface(Case):
    def test_defined_here(self):
        for function in (fillings, count_fillings, least_rolled):
            self.assertEqual(function.__module__, module.__name__)

    def test_by_name(self):
        self.assertEqual(fillings(high=1, wide=3, shape=BAR), (((0, 0),), ((1, 0),), ((2, 0),)))
        self.assertEqual(count_fillings(high=2, wide=3, shape=BAR), 9)
        self.assertEqual(least_rolled(most=36, shape=BAR), (3, 1))
        for call in (fillings, count_fillings):
            self.assert_given(NotAShape, None, call, high=None, wide=None, shape=None)
            self.assert_given(InvalidNumber, None, call, high=37, wide=None, shape=BAR)
        self.assert_given(NotAShape, None, least_rolled, most=None, shape=None)

    def test_equal_calls(self):
        cells = ANGLE.cells
        self.assertEqual(fillings(ANGLE, 6, 3), fillings(Shape(((7, 7), (7, 8), (8, 8))), 6, 3))
        self.assertEqual(least_rolled(ANGLE, 36), least_rolled(ANGLE, 36))
        self.assertEqual(ANGLE.cells, cells)

    def test_examples(self):
        self.assert_same(
            [fillings(BAR, 3, 1), count_fillings(BAR, 3, 2), count_fillings(BAR, 1, 3), count_fillings(BAR, 4, 3),
             count_fillings(ANGLE, 3, 3)],
            [(((0, 0),), ((1, 0),), ((2, 0),)), 9, 0, 0, 3])
        self.assert_same(
            [least_rolled(BAR, 36), least_rolled(ANGLE, 36), least_rolled(BOWL, 20), least_rolled(GAP, 36)],
            [(3, 1), (3, 3), None, (4, 1)])
