import itertools
import random

from shovefloors import certificates as module
from shovefloors.certificates import (certify_apart, certify_cut, certify_hues, certify_rolled, certify_shape,
                                      certify_turned)
from shovefloors.checker import accepts
from shovefloors.errors import InvalidCell, InvalidLattice, InvalidNumber, NotAShape, NotFilled, NotWhole, TooGreat
from shovefloors.lattices import lattices, rest
from shovefloors.places import are_fine, copy_at, least_hues, neighbours
from shovefloors.rolled import fillings
from shovefloors.shapes import Shape
from shovefloors.turning import turned_floors
from shovefloors.walks import cuts, parts
from tests.support import (FAR_NUMBERS, NO_INTEGERS, NO_LATTICES, NO_PAIRS, NO_SHAPES, Case, Plain, pieces_up_to,
                           shapes_within)

ANGLE, BAR, CROSS = Shape.read("#.\n##"), Shape(((4, 7), (5, 7), (6, 7))), Shape.read(".#.\n###\n.#.")
TEE, BOWL, GAP = Shape.read("###\n.#."), Shape.read("#.#\n###"), Shape.read("#.#")
ONE, SPLIT, BLOCK = Shape(((0, 0),)), Shape.read("#..#"), Shape.read("##\n##")
RING = Shape.read("###\n#.#\n###")
ROW = Shape(tuple([(x, 0) for x in range(24)]))
FAR = Shape(((-1000, -1000), (1000, 999)))
COMB = Shape(tuple([(x, y) for y, x in enumerate([-1000, 848, -920, 828] + [108] * 20)]))
COMB_LATTICE = (1, 0, 24)
# Its copies lie beside those that are 1, 880, 1260, 1748 and 1768 columns away: each k up to 23 has a multiple among
# these, but 24 has none.
LESS_COMB = Shape(tuple([(x, y) for y, x in enumerate([-1000, 768, -980, 280] + [-600] * 20)]))
SHAPES = shapes_within(3, 2) + pieces_up_to(5) + [SPLIT, ROW, FAR, Shape.read("#..#.\n....#"), Shape.read("##.##")]
WHOLE = [shape for shape in SHAPES if shape.is_whole]
WRONG = Plain()


class CertificateCase(Case):
    def assert_accepted(self, found, claim):
        """A pair of just this claim and a certificate that the checker accepts; returns the certificate."""
        self.assertIs(found.__class__, tuple)
        self.assertEqual(len(found), 2)
        self.assert_same(found[0], claim)
        self.assertIs(accepts(*found), True)
        return found[1]


class TestShapes(CertificateCase):
    def test_first_lattice_or_stuck(self):
        for shape in SHAPES:
            lattice = lattices(shape)[:1]
            if lattice:
                found = self.assert_accepted(certify_shape(shape), ("fills", str(shape), lattice[0]))
                self.assert_same(found, tuple([rest(lattice[0], cell) for cell in shape.cells]))
            else:
                self.assert_accepted(certify_shape(shape), ("stuck", str(shape)))

    def test_great_ones(self):
        generator = random.Random(4)
        places = list(itertools.product(range(8), range(6)))
        for many in range(1, 25):
            for _ in range(4):
                shape = Shape(tuple(generator.sample(places, many)))
                word = "fills" if lattices(shape) else "stuck"
                self.assert_accepted(certify_shape(shape), (word, str(shape)) + lattices(shape)[:1])

    def test_first_cut(self):
        none = 0
        for shape in WHOLE:
            found = cuts(shape)
            none += not found
            if found:
                claim = ("cut", str(shape), found[0])
                told = self.assert_accepted(certify_cut(shape), claim)
                self.assert_same(told, parts(shape, found[0])[:len(found[0])])
            else:
                self.assertIsNone(certify_cut(shape))
        self.assertGreater(none, 3)
        self.assertIsNone(certify_cut(BOWL))

    def test_first_turned_floor(self):
        none = 0
        for shape in SHAPES:
            if len(shape) <= 12:
                found = turned_floors(shape)
                none += not found
                if found:
                    told = self.assert_accepted(certify_turned(shape), ("turned", str(shape), found[0]))
                    self.assert_same(told, ())
                else:
                    self.assertIsNone(certify_turned(shape))
        self.assertIsNone(certify_turned(RING))
        self.assertGreater(none, 0)
        twelve = Shape(ROW.cells[:12])
        self.assert_accepted(certify_turned(twelve), ("turned", "#" * 12, (12, 0, 2, 0, 1)))

    def test_rolled(self):
        for shape in (ONE, ANGLE, BAR, BOWL, GAP, SPLIT, FAR, CROSS, BLOCK):
            for wide, high in ((1, 1), (2, 1), (1, 2), (3, 1), (3, 3), (4, 2), (4, 3), (6, 4), (36, 1), (1, 36), (5, 5)):
                found = fillings(shape, wide, high)
                claim = ("rolled", str(shape), wide, high, len(found))
                self.assert_same(self.assert_accepted(certify_rolled(shape, wide, high), claim), found)


class TestPlaces(CertificateCase):
    def test_apart_or_none(self):
        for shape in (ONE, ANGLE, BAR, SPLIT, CROSS):
            for lattice in lattices(shape):
                for one, two in itertools.product(itertools.product((-3, 0, 1, 4), repeat=2), repeat=2):
                    shoves = (copy_at(shape, lattice, one), copy_at(shape, lattice, two))
                    found = certify_apart(shape, lattice, one, two)
                    if shoves[0] == shoves[1]:
                        self.assertIsNone(found)
                    else:
                        claim = ("apart", str(shape), lattice, one, two)
                        self.assert_same(self.assert_accepted(found, claim), shoves)

    def test_apart_by_a_shape_that_reaches_far(self):
        for lattice in lattices(FAR):
            self.assert_accepted(certify_apart(FAR, lattice, (0, 0), (1, 0)), ("apart", str(FAR), lattice, (0, 0), (1, 0)))
            self.assertIsNone(certify_apart(FAR, lattice, (0, 0), (2000, 1999)))

    def test_apart_very_far_away(self):
        for x, y in itertools.product(FAR_NUMBERS, repeat=2):
            claim = ("apart", "#.\n##", (3, 2, 1), (x, y), (0, -5))
            self.assert_accepted(certify_apart(ANGLE, (3, 2, 1), (x, y), (0, -5)), claim)
            a, b = copy_at(ANGLE, (3, 2, 1), (x, y))
            self.assertIsNone(certify_apart(ANGLE, (3, 2, 1), (a, b), (a + 1, b + 1)))
            self.assertIsNone(certify_apart(ONE, (1, 0, 1), (x, y), (x, y)))

    def test_least_hues(self):
        for shape in (ONE, ANGLE, BAR, SPLIT, CROSS, TEE, BLOCK, Shape.read("#....\n...#.\n.....\n.#..#")):
            for lattice in lattices(shape):
                number = least_hues(shape, lattice)
                fine = [(number, i, j) for i in range(number) for j in range(number)
                        if are_fine(shape, lattice, (number, i, j))]
                claim = ("hues", str(shape), lattice, fine[0])
                found = self.assert_accepted(certify_hues(shape, lattice), claim)
                self.assert_same(found, neighbours(shape, lattice))
        self.assertEqual(certify_hues(ONE, (1, 0, 1))[0], ("hues", "#", (1, 0, 1), (2, 1, 1)))

    def test_as_many_hues_as_can_be_told(self):
        self.assertEqual(least_hues(LESS_COMB, COMB_LATTICE), 24)
        fine = [(24, i, j) for i in range(24) for j in range(24) if are_fine(LESS_COMB, COMB_LATTICE, (24, i, j))]
        claim = ("hues", str(LESS_COMB), COMB_LATTICE, fine[0])
        self.assert_accepted(certify_hues(LESS_COMB, COMB_LATTICE), claim)

    def test_more_hues_than_can_be_told(self):
        self.assert_number(TooGreat, 25, certify_hues, COMB, COMB_LATTICE)
        self.assertEqual(certify_shape(COMB)[0][2], COMB_LATTICE)


class TestErrors(CertificateCase):
    def test_no_shapes(self):
        for wrong in NO_SHAPES:
            for call in (certify_shape, certify_cut, certify_turned):
                self.assert_given(NotAShape, wrong, call, wrong)
            self.assert_given(NotAShape, wrong, certify_rolled, wrong, None, None)
            self.assert_given(NotAShape, wrong, certify_apart, wrong, None, None, None)
            self.assert_given(NotAShape, wrong, certify_hues, wrong, None)

    def test_not_whole(self):
        for shape in (GAP, SPLIT, RING, FAR):
            self.assert_bare(NotWhole, certify_cut, shape)

    def test_too_many_cells_for_turned_floors(self):
        for many in (13, 20, 24):
            self.assert_number(TooGreat, many, certify_turned, Shape(ROW.cells[:many]))

    def test_rolled(self):
        for wrong in [0, -1, 37, 10 ** 79] + NO_INTEGERS:
            self.assert_given(InvalidNumber, wrong, certify_rolled, BAR, wrong, None)
            self.assert_given(InvalidNumber, wrong, certify_rolled, BAR, 36, wrong)
        for wide, high in ((36, 2), (2, 36), (6, 7), (36, 36), (19, 2)):
            self.assert_number(TooGreat, wide * high, certify_rolled, BAR, wide, high)

    def test_apart_and_hues_in_their_order(self):
        for wrong in NO_LATTICES:
            self.assert_given(InvalidLattice, wrong, certify_apart, GAP, wrong, None, None)
            self.assert_given(InvalidLattice, wrong, certify_hues, GAP, wrong)
        for wrong in NO_PAIRS:
            self.assert_given(InvalidCell, wrong, certify_apart, GAP, (2, 0, 1), wrong, None)
            self.assert_given(InvalidCell, wrong, certify_apart, GAP, (2, 0, 1), (0, 0), wrong)
            self.assert_given(InvalidCell, wrong, certify_apart, ANGLE, (3, 2, 1), wrong, (0, 0))
        for shape, lattice in ((GAP, (2, 0, 1)), (ANGLE, (3, 1, 1)), (ONE, (100, 99, 100)), (COMB, (24, 0, 1))):
            self.assert_bare(NotFilled, certify_apart, shape, lattice, (0, 0), (0, 0))
            self.assert_bare(NotFilled, certify_apart, shape, lattice, (0, 0), (9, 9))
            self.assert_bare(NotFilled, certify_hues, shape, lattice)


class TestInterface(CertificateCase):
    def test_defined_here(self):
        for function in (certify_shape, certify_cut, certify_turned, certify_rolled, certify_apart, certify_hues):
            self.assertEqual(function.__module__, module.__name__)

    def test_by_name(self):
        self.assertIs(accepts(*certify_shape(shape=GAP)), True)
        self.assertIs(accepts(*certify_cut(shape=ANGLE)), True)
        self.assertIs(accepts(*certify_turned(shape=ANGLE)), True)
        self.assertEqual(certify_rolled(high=1, wide=3, shape=BAR), certify_rolled(BAR, 3, 1))
        self.assertEqual(certify_apart(two=(5, 5), one=(0, 0), lattice=(3, 2, 1), shape=ANGLE),
                         certify_apart(ANGLE, (3, 2, 1), (0, 0), (5, 5)))
        self.assertEqual(certify_hues(lattice=(3, 2, 1), shape=ANGLE), certify_hues(ANGLE, (3, 2, 1)))
        self.assert_given(InvalidCell, WRONG, certify_apart, two=None, one=WRONG, lattice=(2, 0, 1), shape=GAP)
        self.assert_given(InvalidNumber, WRONG, certify_rolled, high=None, wide=WRONG, shape=GAP)
        self.assert_given(InvalidLattice, WRONG, certify_hues, lattice=WRONG, shape=GAP)

    def test_equal_calls(self):
        for call in (certify_shape, certify_cut, certify_turned):
            self.assertEqual(call(ANGLE), call(Shape(((5, 5), (5, 6), (6, 6)))))
        self.assertEqual(certify_shape(BOWL), certify_shape(BOWL))

    def test_examples(self):
        self.assert_same(
            [certify_shape(ANGLE), certify_cut(ANGLE), certify_apart(ANGLE, (3, 2, 1), (10, 10), (9, 10)),
             certify_rolled(BAR, 3, 1)[0]],
            [(("fills", "#.\n##", (3, 2, 1)), ((0, 0), (1, 0), (2, 0))),
             (("cut", "#.\n##", (0, 1, 3)), ("r", "dr", "d")), None, ("rolled", "###", 3, 1, 3)])
        self.assert_same(certify_shape(BOWL)[0], ("stuck", "#.#\n###"))
