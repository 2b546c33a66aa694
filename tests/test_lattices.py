import itertools
import math
import random

from shovefloors import lattices as module
from shovefloors.errors import InvalidCell, InvalidLattice, InvalidShoves, NotAShape, TooGreat
from shovefloors.lattices import common, down, fills, is_filled, lattices, made_by, rest
from shovefloors.shapes import Shape
from tests.support import (FAR_NUMBERS, NO_LATTICES, NO_PAIRS, NO_SHAPES, NO_TUPLES, Case, all_lattices, holds_once,
                           pieces_up_to, shapes_within, shoves_of)

ANGLE, BAR, CROSS = Shape.read("#.\n##"), Shape(((4, 7), (5, 7), (6, 7))), Shape.read(".#.\n###\n.#.")
TEE, BOWL, GAP = Shape.read("###\n.#."), Shape.read("#.#\n###"), Shape.read("#.#")
ONE = Shape(((0, 0),))
FAR = Shape(((-1000, -1000), (1000, 1000)))
KINDS = [(1, 0, 1), (2, 0, 1), (2, 1, 1), (3, 2, 1), (2, 1, 3), (5, 4, 2), (4, 0, 3), (1, 0, 4), (6, 2, 1), (7, 3, 5),
         (100, 99, 1), (100, 37, 100), (1, 0, 100)]
ROW = tuple([(x, 0) for x in range(24)])


def triples_with(many):
    """All triples that are lattices with so many rests, found among all."""
    return [(w, s, h) for w in range(1, many + 1) for s in range(w) for h in range(1, many + 1) if w * h == many]


def laid_out(shape, lattice):
    """Whether the copies of a shape, laid out one by one, hold each cell of a block just once."""
    wide, _, high = lattice
    far = 3 * max(shape.wide, shape.high) + 3 * high + 3
    copies = [(x + a, y + b) for (a, b) in shoves_of(lattice, far) for (x, y) in shape.cells]
    return holds_once(copies, list(itertools.product(range(wide), range(high))))


class TestRest(Case):
    def test_same_rests_are_brought_to_one_another_and_others_not(self):
        block = list(itertools.product(range(-5, 6), range(-5, 6)))
        for lattice in all_lattices(4, 3):
            shoves = shoves_of(lattice, 60)
            rests = {cell: rest(lattice, cell) for cell in block}
            for (x, y), (to_x, to_y) in itertools.product(block, block):
                self.assertIs(rests[x, y] == rests[to_x, to_y], (to_x - x, to_y - y) in shoves)

    def test_as_the_document_tells_it(self):
        for lattice in KINDS:
            wide, slip, high = lattice
            for x, y in itertools.product(range(-15, 16, 3), range(-15, 16, 2)):
                times = [b for b in range(-20, 21) if 0 <= y - b * high < high]
                self.assertEqual(len(times), 1)
                column = x - times[0] * slip
                while column < 0:
                    column += wide
                while column >= wide:
                    column -= wide
                self.assert_same(rest(lattice, (x, y)), (column, y - times[0] * high))

    def test_shoves_of_the_lattice_do_not_change_it(self):
        for lattice in KINDS:
            wide, slip, high = lattice
            for a, b in itertools.product(FAR_NUMBERS, FAR_NUMBERS):
                for x, y in ((0, 0), (wide - 1, high - 1), (wide // 2, high // 2)):
                    cell = (x + a * wide + b * slip, y + b * high)
                    self.assertEqual(rest(lattice, cell), (x, y))

    def test_very_far_away(self):
        self.assertEqual(rest((3, 2, 1), (10 ** 30, 0)), (1, 0))
        self.assertEqual(rest((3, 2, 1), (-10 ** 30, 0)), (2, 0))
        self.assertEqual(rest((7, 0, 10), (0, -10 ** 30 - 1)), (0, 9))
        self.assertEqual(rest((10, 1, 1), (0, 10 ** 30 + 4)), (6, 0))

    def test_a_rest_is_its_own_rest_and_there_are_just_so_many(self):
        for lattice in all_lattices(5, 4):
            wide, _, high = lattice
            found = {rest(lattice, cell) for cell in itertools.product(range(-20, 21), range(-13, 14))}
            self.assertEqual(sorted(found), list(itertools.product(range(wide), range(high))))
            for cell in found:
                self.assertEqual(rest(lattice, cell), cell)
        self.assertEqual(rest((100, 99, 100), (99, 99)), (99, 99))

    def test_wrong_arguments(self):
        for wrong in NO_LATTICES:
            self.assert_given(InvalidLattice, wrong, rest, wrong, (0, 0))
            self.assert_given(InvalidLattice, wrong, rest, wrong, None)
        for wrong in NO_PAIRS:
            self.assert_given(InvalidCell, wrong, rest, (3, 2, 1), wrong)

    def test_by_name(self):
        self.assertEqual(rest(cell=(7, 5), lattice=(3, 2, 1)), (0, 0))
        wrong = [3, 2, 1]
        self.assert_given(InvalidLattice, wrong, rest, cell=None, lattice=wrong)


class TestFilled(Case):
    def test_shapes_of_a_block_against_copies_laid_out(self):
        for shape in shapes_within(3, 2) + shapes_within(2, 3) + shapes_within(5, 1):
            found = [lattice for lattice in triples_with(len(shape)) if laid_out(shape, lattice)]
            self.assert_same(lattices(shape), tuple(found))

    def test_all_triples_and_no_other_one(self):
        for shape in shapes_within(3, 3) + pieces_up_to(6):
            found = lattices(shape)
            self.assertIs(found.__class__, tuple)
            self.assertEqual(list(found), sorted(set(found)))
            for wide, slip, high in triples_with(len(shape)):
                rests = {rest((wide, slip, high), cell) for cell in shape.cells}
                is_one = len(rests) == len(shape)
                self.assertIs((wide, slip, high) in found, is_one)
                self.assertIs(is_filled(shape, (wide, slip, high)), is_one)
            self.assertIs(fills(shape), len(found) > 0)
            self.assertLessEqual(set(found), set(triples_with(len(shape))))

    def test_one_cell_bars_and_blocks(self):
        self.assertEqual(lattices(ONE), ((1, 0, 1),))
        self.assertEqual(lattices(BAR), ((3, 0, 1), (3, 1, 1), (3, 2, 1)))
        self.assertEqual(lattices(BAR.quarter()), ((1, 0, 3), (3, 1, 1), (3, 2, 1)))
        self.assertEqual(lattices(Shape.read("##\n##")), ((2, 0, 2), (2, 1, 2), (4, 2, 1)))
        self.assertEqual(lattices(Shape(ROW)), tuple([(24, s, 1) for s in range(24)]))
        block = Shape(tuple(itertools.product(range(4), range(6))))
        self.assertIn((4, 3, 6), lattices(block))
        self.assertIs(fills(block), True)

    def test_several_pieces(self):
        self.assertEqual(lattices(Shape.read("#..#")), ((2, 0, 1), (2, 1, 1)))
        self.assertEqual(lattices(Shape.read("#.\n.#")), ((1, 0, 2), (2, 0, 1)))
        self.assertEqual(lattices(Shape.read("#.....#.....#\n.............\n#.....#.....#")), ())
        self.assertEqual(lattices(Shape.read("#..#..#\n.......\n.......\n#..#..#")), ())
        # One cell at each rest, far from one another.
        scattered = Shape(((-1000, -1000), (1000, -999), (0, 0), (-999, 1000), (501, 502), (2, 1)))
        for lattice in triples_with(6):
            rests = {rest(lattice, cell) for cell in scattered.cells}
            self.assertIs(lattice in lattices(scattered), len(rests) == 6)
        self.assertEqual(lattices(FAR), ())
        self.assertEqual(lattices(Shape(((-1000, -1000), (1000, 999)))), ((1, 0, 2), (2, 1, 1)))

    def test_shapes_that_fill_by_no_lattice(self):
        for text in ("#.#", "#.#\n###", "###\n#.#\n###", "##.#", "#\n.\n#"):
            self.assertEqual(lattices(Shape.read(text)), ())
            self.assertIs(fills(Shape.read(text)), False)
            for lattice in all_lattices(5, 5):
                self.assertIs(is_filled(Shape.read(text), lattice), False)

    def test_another_number_of_cells(self):
        for shape in (ONE, ANGLE, BAR, CROSS, GAP):
            for wide, slip, high in all_lattices(6, 6) + [(100, 0, 100), (100, 99, 1), (1, 0, 100)]:
                if wide * high != len(shape):
                    self.assertIs(is_filled(shape, (wide, slip, high)), False)

    def test_wrong_shapes_and_lattices(self):
        for wrong in NO_SHAPES:
            self.assert_given(NotAShape, wrong, is_filled, wrong, (3, 2, 1))
            self.assert_given(NotAShape, wrong, is_filled, wrong, None)
            self.assert_given(NotAShape, wrong, lattices, wrong)
            self.assert_given(NotAShape, wrong, fills, wrong)
        for wrong in NO_LATTICES:
            self.assert_given(InvalidLattice, wrong, is_filled, ANGLE, wrong)
            self.assert_given(InvalidLattice, wrong, is_filled, GAP, wrong)

    def test_by_name(self):
        self.assertIs(is_filled(lattice=(3, 2, 1), shape=ANGLE), True)
        self.assertEqual(lattices(shape=TEE), ((4, 2, 1),))
        self.assertIs(fills(shape=BOWL), False)
        self.assert_given(NotAShape, None, is_filled, lattice=None, shape=None)
        self.assert_given(NotAShape, None, lattices, shape=None)
        self.assert_given(NotAShape, None, fills, shape=None)

    def test_the_shape_stays(self):
        cells = CROSS.cells
        self.assertEqual(lattices(CROSS), lattices(CROSS))
        self.assertEqual(CROSS.cells, cells)


class TestMadeBy(Case):
    def assert_made(self, shoves):
        """All shoves are of the lattice, and it has just as many rests as their sums leave."""
        lattice = made_by(shoves)
        areas = [a * d - b * c for (a, b), (c, d) in itertools.combinations(shoves, 2)]
        self.assertIs(lattice.__class__, tuple)
        self.assertEqual({rest(lattice, shove) for shove in shoves}, {(0, 0)})
        self.assertEqual(lattice[0] * lattice[2], math.gcd(*areas))
        return lattice

    def test_two_shoves_of_each_lattice(self):
        for lattice in all_lattices(7, 4) + KINDS:
            wide, slip, high = lattice
            for across, along in itertools.product((1, -1), (1, -1)):
                one, two = (across * wide, 0), (along * slip, along * high)
                self.assert_same(made_by((one, two)), lattice)
                self.assert_same(made_by((two, one)), lattice)
                third = (one[0] + 2 * two[0], one[1] + 2 * two[1])
                self.assert_same(made_by((two, third)), lattice)
                self.assert_same(made_by((third, two)), lattice)

    def test_many_shoves_in_any_order(self):
        for shoves in [((6, 0), (0, 4), (3, 2)), ((2, 1), (4, -1), (6, 0)), ((9, 3), (5, 7), (-4, 6)),
                       ((10, 4), (6, 2), (0, 0), (8, 8)), ((0, 9), (0, 6), (4, 0), (6, 0))]:
            wanted = self.assert_made(shoves)
            for order in itertools.permutations(shoves):
                self.assertEqual(made_by(order), wanted)
                self.assertEqual(made_by(tuple([(-x, -y) for x, y in order])), wanted)

    def test_shoves_of_the_lattice_change_nothing(self):
        for shoves in [((6, 0), (3, 4)), ((2, 1), (4, -1)), ((7, 5), (-3, 8))]:
            lattice = made_by(shoves)
            found = [shove for shove in sorted(shoves_of(lattice, 3)) if shove not in shoves]
            for more in (found[:1], found[:22], found[-22:], found[10:20]):
                self.assertEqual(made_by(shoves + tuple(more)), lattice)
                self.assertEqual(made_by(tuple(more) + shoves), lattice)

    def test_shoves_anywhere(self):
        source = random.Random(3)
        made = 0
        for _ in range(3000):
            many = source.choice((2, 3, 4, 7, 24))
            top = source.choice((3, 8, 40, 1000))
            shoves = {(source.randint(-top, top), source.randint(-top, top)) for _ in range(many)}
            shoves = tuple(sorted(shoves, key=lambda shove: shove[0] * 7919 % 31))
            areas = [a * d - b * c for (a, b), (c, d) in itertools.combinations(shoves, 2)]
            if math.gcd(*areas) == 0:
                self.assertIsNone(made_by(shoves))
            elif math.gcd(*areas) <= 100:
                self.assert_made(shoves)
                made += 1
        self.assertGreater(made, 500)

    def test_none_along_one_line(self):
        for shoves in [((0, 0),), ((1, 0),), ((0, 1),), ((3, 4),), ((1, 0), (-1, 0)), ((0, 0), (5, 5)),
                       ((2, 2), (-4, -4)), ((0, 1), (0, 2), (0, -3)), ((6, -9), (2, -3), (-4, 6), (0, 0)), ROW,
                       ((1000, 1000), (-1000, -1000)), ((1000, 0), (999, 0))]:
            self.assertIsNone(made_by(shoves))

    def test_too_great(self):
        self.assertEqual(made_by(((100, 0), (0, 100))), (100, 0, 100))
        self.assert_number(TooGreat, 101, made_by, ((101, 0), (0, 1)))
        self.assert_number(TooGreat, 101, made_by, ((1, 0), (0, 101)))
        self.assert_number(TooGreat, 300, made_by, ((100, 0), (0, 300)))
        self.assert_number(TooGreat, 200, made_by, ((0, 300), (200, 0)))
        self.assert_number(TooGreat, 1000, made_by, ((1000, 0), (999, 1000)))
        self.assert_number(TooGreat, 1000, made_by, ((1, 1000), (0, -1000)))
        self.assert_number(TooGreat, 1998001, made_by, ((1000, 999), (-999, 1000)))

    def test_wrong_shoves(self):
        self.assert_index(InvalidShoves, None, made_by, ())
        for wrong in NO_TUPLES:
            self.assert_index(InvalidShoves, None, made_by, wrong)
        for wrong in NO_PAIRS:
            self.assert_index(InvalidShoves, 0, made_by, (wrong,))
            self.assert_index(InvalidShoves, 2, made_by, ((1, 0), (0, 1), wrong, (1, 0)))
        for number in (-1001, 1001, 10 ** 79):
            self.assert_index(InvalidShoves, 1, made_by, ((1, 0), (number, 1)))
            self.assert_index(InvalidShoves, 1, made_by, ((1, 0), (1, number), None))
        self.assert_index(InvalidShoves, 2, made_by, ((1, 0), (0, 1), (1, 0)))
        self.assert_index(InvalidShoves, 1, made_by, ((1, 0), (True, 0)))
        self.assert_index(InvalidShoves, 24, made_by, ROW + ((0, 1),))
        self.assert_index(InvalidShoves, 24, made_by, ROW + (None,))
        self.assert_index(InvalidShoves, 3, made_by, ROW[:3] + ([],) + ROW)
        self.assertEqual(made_by(ROW[1:] + ((0, 1),)), (1, 0, 1))

    def test_wrong_shoves_are_told_ahead(self):
        # The first two shoves alone would be too great, or along one line.
        self.assert_index(InvalidShoves, 2, made_by, ((500, 0), (0, 500), None))
        self.assert_index(InvalidShoves, 2, made_by, ((5, 0), (10, 0), (5, 0)))

    def test_by_name(self):
        self.assertEqual(made_by(shoves=((2, 1), (4, -1))), (6, 2, 1))
        self.assert_index(InvalidShoves, None, made_by, shoves=None)


class TestCommon(Case):
    def test_against_all_cells_of_a_block(self):
        block = list(itertools.product(range(-7, 8), range(-1, 20)))
        kinds = all_lattices(3, 3)
        shoves = {lattice: set(shoves_of(lattice, 40)) for lattice in kinds}
        for one, two in itertools.product(kinds, kinds):
            found = common(one, two)
            wide, slip, high = found
            self.assertTrue(wide >= 1 and high >= 1 and 0 <= slip < wide)
            for x, y in block:
                is_of = y % high == 0 and (x - y // high * slip) % wide == 0
                self.assertIs(is_of, (x, y) in shoves[one] and (x, y) in shoves[two], (one, two, x, y))

    def test_either_order(self):
        for one, two in itertools.product(all_lattices(6, 3), all_lattices(4, 4)):
            self.assert_same(common(one, two), common(two, one))

    def test_with_itself_and_with_all(self):
        for lattice in all_lattices(8, 4) + KINDS:
            self.assert_same(common(lattice, lattice), lattice)
            self.assert_same(common(lattice, (1, 0, 1)), lattice)

    def test_above_one_hundred(self):
        self.assertEqual(common((100, 0, 1), (99, 0, 1)), (9900, 0, 1))
        self.assertEqual(common((1, 0, 100), (1, 0, 99)), (1, 0, 9900))
        self.assertEqual(common((100, 0, 100), (99, 0, 99)), (9900, 0, 9900))
        self.assertEqual(common((100, 1, 1), (100, 0, 1)), (100, 0, 100))
        self.assertEqual(common((100, 1, 100), (100, 0, 99)), (100, 0, 990000))
        self.assertEqual(common((100, 1, 1), (99, 1, 1)), (9900, 1, 1))
        # Two lines down the column has the rest 1 by 97 for the one, and 4 by 89 for the other.
        self.assertEqual(common((97, 1, 2), (89, 2, 1)), (97 * 89, 1 + 97 * 56, 2))

    def test_great_ones_are_of_both_and_no_more(self):
        source = random.Random(8)
        for _ in range(300):
            one, two = [(w, source.randrange(w), source.randint(1, 100))
                        for w in (source.randint(1, 100), source.randint(1, 100))]
            wide, slip, high = common(one, two)
            for lattice in (one, two):
                self.assertEqual(rest(lattice, (wide, 0)), (0, 0))
                self.assertEqual(rest(lattice, (slip, high)), (0, 0))
            self.assertEqual(wide, math.lcm(one[0], two[0]))
            both = math.gcd(one[0], two[0])
            step = math.lcm(one[2], two[2])
            below = [y for y in range(step, high, step)
                     if (y // one[2] * one[1] - y // two[2] * two[1]) % both == 0]
            self.assertEqual(below, [])
            self.assertTrue(0 <= slip < wide)

    def test_wrong_lattices(self):
        for wrong in NO_LATTICES:
            self.assert_given(InvalidLattice, wrong, common, wrong, (3, 2, 1))
            self.assert_given(InvalidLattice, wrong, common, (3, 2, 1), wrong)
            self.assert_given(InvalidLattice, wrong, common, wrong, "other")

    def test_what_is_returned_can_be_too_great_to_be_passed(self):
        found = common((100, 0, 1), (99, 0, 1))
        self.assert_given(InvalidLattice, found, common, found, (1, 0, 1))
        self.assert_given(InvalidLattice, found, common, (1, 0, 1), found)

    def test_by_name(self):
        self.assertEqual(common(other=(3, 1, 1), lattice=(2, 1, 1)), (6, 1, 1))
        wrong, other = [], "other"
        self.assert_given(InvalidLattice, wrong, common, other=other, lattice=wrong)
        self.assert_given(InvalidLattice, other, common, other=other, lattice=(1, 0, 1))


class TestDown(Case):
    def test_against_a_walk_down(self):
        for lattice in all_lattices(12, 4):
            wide, slip, high = lattice
            shoves = shoves_of(lattice, 14)
            lines = [y for y in range(1, wide * high + 1) if (0, y) in shoves]
            self.assert_same(down(lattice), lines[0])

    def test_greatest(self):
        self.assertEqual(down((100, 99, 100)), 10000)
        self.assertEqual(down((100, 50, 100)), 200)
        self.assertEqual(down((100, 0, 100)), 100)
        self.assertEqual(down((1, 0, 1)), 1)

    def test_wrong_lattices(self):
        for wrong in NO_LATTICES:
            self.assert_given(InvalidLattice, wrong, down, wrong)

    def test_by_name(self):
        self.assertEqual(down(lattice=(6, 4, 2)), 6)
        self.assert_given(InvalidLattice, None, down, lattice=None)


class TestInterface(Case):
    def test_defined_here(self):
        for function in (rest, is_filled, lattices, fills, made_by, common, down):
            self.assertEqual(function.__module__, module.__name__)

    def test_greatest_lattices_are_right(self):
        self.assertEqual(rest((100, 99, 100), (-1, -1)), (98, 99))
        self.assertIs(is_filled(ONE, (100, 99, 100)), False)
        self.assertEqual(common((100, 99, 100), (100, 99, 100)), (100, 99, 100))

    def test_examples(self):
        self.assert_same(
            [lattices(ANGLE), lattices(BAR), lattices(CROSS), lattices(TEE), fills(BOWL), lattices(GAP)],
            [((3, 2, 1),), ((3, 0, 1), (3, 1, 1), (3, 2, 1)), ((5, 2, 1), (5, 3, 1)), ((4, 2, 1),), False, ()])
        self.assert_same(
            [rest((3, 2, 1), (7, 5)), rest((2, 1, 3), (0, -1)), is_filled(ANGLE, (3, 1, 1)),
             made_by(((2, 1), (4, -1))), made_by(((2, 2), (-4, -4))), made_by(((0, 4), (6, 0), (3, 2)))],
            [(0, 0), (1, 2), False, (6, 2, 1), None, (6, 3, 2)])
        self.assert_same(
            [common((2, 0, 1), (1, 0, 3)), common((3, 1, 1), (3, 2, 1)), common((2, 1, 1), (3, 1, 1)),
             down((3, 1, 1)), down((6, 4, 2))],
            [(2, 0, 3), (3, 0, 3), (6, 1, 1), 3, 6])
