import itertools
import random

from shovefloors import checker as module
from shovefloors.certificates import (certify_apart, certify_cut, certify_hues, certify_rolled, certify_shape,
                                      certify_turned)
from shovefloors.checker import accepts
from shovefloors.lattices import lattices, rest
from shovefloors.places import are_fine, copy_at, neighbours
from shovefloors.rolled import fillings
from shovefloors.shapes import Shape
from shovefloors.turning import turned_floors
from shovefloors.walks import cuts, parts
from tests.claims import ANY_VALUES, DEEP, all_with, is_right, nearly, pairs_of
from tests.support import NO_LATTICES, NO_PAIRS, Case, Plain, pieces_up_to, shapes_within

ANGLE, BAR, CROSS = Shape.read("#.\n##"), Shape(((4, 7), (5, 7), (6, 7))), Shape.read(".#.\n###\n.#.")
TEE, BOWL, GAP = Shape.read("###\n.#."), Shape.read("#.#\n###"), Shape.read("#.#")
ONE, SPLIT, BLOCK = Shape(((0, 0),)), Shape.read("#..#"), Shape.read("##\n##")
SHAPES = shapes_within(3, 2) + pieces_up_to(5) + [SPLIT, Shape.read("#..#.\n....#")]
BOX = Shape(tuple(itertools.product(range(6), range(4))))
LONG = Shape(tuple([(x, 0) for x in range(13)]))
ANGLE_CLAIM = (("fills", "#.\n##", (3, 2, 1)), ((0, 0), (1, 0), (2, 0)))
SOME = [
    certify_shape(ANGLE), certify_shape(ONE), certify_shape(GAP), certify_shape(BOWL), certify_shape(SPLIT),
    certify_cut(ANGLE), certify_cut(BLOCK), certify_cut(ONE), certify_hues(ANGLE, (3, 2, 1)),
    certify_hues(BAR, (3, 0, 1)), certify_turned(ANGLE), certify_turned(ONE), certify_turned(BOWL),
    certify_rolled(BAR, 3, 1), certify_rolled(ANGLE, 3, 3), certify_rolled(GAP, 2, 2), certify_rolled(ONE, 2, 1),
    certify_apart(ANGLE, (3, 2, 1), (10, 10), (0, -1)), certify_apart(ONE, (1, 0, 1), (0, 0), (0, 1)),
    certify_apart(SPLIT, (2, 0, 1), (0, 0), (10 ** 30, 1))]
NO_TEXTS = [
    "", "\n", ".", "#.", ".#", "#\n", "\n#", "#.\n#.", ".#\n.#", "##\n..", "..\n##", "#.\n#", "#\n##", "##\n#", "# #", "#x",
    "x", "#o\n##", "#\n\n#", "#\r\n#", "#/#", " #", "# ", "#" * 25, "\n".join(["#####"] * 5), "...", "#.#.", "#\t#", None,
    True, 0, b"#", (), ("#",), ["#"], {"#": 1}, ANGLE, Plain(), ((0, 0),)]


class CheckerCase(Case):
    def assert_accepted(self, claim, certificate):
        self.assertIs(accepts(claim, certificate), True, (claim, certificate))

    def assert_refused(self, claim, certificate):
        self.assertIs(accepts(claim, certificate), False, (claim, certificate))


class TestRight(CheckerCase):
    def test_fills_by_each_lattice(self):
        for shape in SHAPES:
            for lattice in all_with(len(shape)):
                certificate = tuple([rest(lattice, cell) for cell in shape.cells])
                claim = ("fills", str(shape), lattice)
                self.assertIs(accepts(claim, certificate), lattice in lattices(shape))

    def test_stuck_with_any_pair_of_cells_for_each_lattice(self):
        generator = random.Random(3)
        stuck = [shape for shape in SHAPES if not lattices(shape)]
        self.assertGreater(len(stuck), 20)
        for shape in stuck:
            pairs = pairs_of(shape)
            for _ in range(20):
                self.assert_accepted(("stuck", str(shape)), tuple([generator.choice(own) for own in pairs]))
        for certificate in itertools.product(*pairs_of(GAP)):
            self.assert_accepted(("stuck", "#.#"), certificate)

    def test_stuck_is_never_accepted_for_a_shape_that_fills(self):
        for shape in SHAPES:
            if lattices(shape):
                indexes = list(itertools.combinations(range(len(shape)), 2)) + [(0, 0)]
                many = len(all_with(len(shape)))
                for pair in indexes:
                    self.assert_refused(("stuck", str(shape)), (pair,) * many)
                pairs = [own or indexes for own in pairs_of(shape)]
                self.assert_refused(("stuck", str(shape)), tuple([own[0] for own in pairs]))
                self.assert_refused(("stuck", str(shape)), tuple([own[-1] for own in pairs if own]))
        self.assert_refused(("stuck", "#"), ())
        self.assert_refused(("stuck", "#"), ((0, 0),))

    def test_stuck_refused_with_other_pairs(self):
        for shape in (GAP, BOWL, Shape.read("#.#.#\n#...#")):
            pairs = pairs_of(shape)
            right = tuple([own[0] for own in pairs])
            for at, own in enumerate(pairs):
                for i, j in itertools.product(range(-1, len(shape) + 1), repeat=2):
                    certificate = right[:at] + ((i, j),) + right[at + 1:]
                    self.assertIs(accepts(("stuck", str(shape)), certificate), (i, j) in own)

    def test_cuts_of_whole_shapes_only(self):
        for shape in SHAPES:
            found = cuts(shape) if shape.is_whole else ()
            for cut in found:
                self.assert_accepted(("cut", str(shape), cut), parts(shape, cut)[:len(cut)])
                self.assert_refused(("cut", str(shape), cut), parts(shape, cut))
                self.assert_refused(("cut", str(shape), cut), parts(shape, cut)[len(cut):])
        for text in ("#..#", "#.#", "#.\n.#", "###\n#.#\n###"):
            for cut in ((0, 1), (0, 1, 2), (0, 2), (0, 1, 3), (0, 3), (0, 3, 6)):
                self.assert_refused(("cut", text, cut), ("r", "d"))
                self.assert_refused(("cut", text, cut), ("rrr", "ddd"))

    def test_cuts_that_are_none(self):
        for shape in (ANGLE, BAR, BLOCK, BOWL):
            found = cuts(shape)
            for many in (2, 3):
                for cut in itertools.product(range(-1, 7), repeat=many):
                    if cut not in found:
                        for certificate in (("r",) * many, ("r", "dr", "d")[:many], ()):
                            self.assert_refused(("cut", str(shape), cut), certificate)

    def test_hues_from_two_to_twenty_four(self):
        for shape, lattice in ((ONE, (1, 0, 1)), (BAR, (3, 0, 1)), (BAR, (3, 1, 1)), (ANGLE, (3, 2, 1)),
                               (SPLIT, (2, 0, 1))):
            certificate = neighbours(shape, lattice)
            for number in (2, 3, 4, 7, 24):
                for i, j in itertools.product(range(number), repeat=2):
                    hues = (number, i, j)
                    claim = ("hues", str(shape), lattice, hues)
                    self.assertIs(accepts(claim, certificate), are_fine(shape, lattice, hues))
            for hues in ((25, 1, 1), (25, 12, 12), (1, 0, 0), (0, 0, 0), (100, 33, 41), (-3, -1, -1), (3, 3, 1), (3, 1, 4),
                         (3, -1, 1), (2, 1, 1, 0), (2, 1), [2, 1, 1], (3, True, 1), (2, 1, True), None, 2, ()):
                self.assert_refused(("hues", str(shape), lattice, hues), certificate)

    def test_turned_floors_also_with_more_than_twelve_cells(self):
        for shape in [ONE, ANGLE, GAP, BOWL]:
            many = 2 * len(shape)
            for w, s, h in all_with(many):
                for floor in itertools.product((w,), (s,), (h,), range(-1, w + 1), range(-1, h + 1)):
                    claim = ("turned", str(shape), floor)
                    self.assertIs(accepts(claim, ()), floor in turned_floors(shape))
        for shape, floor in ((LONG, (13, 4, 2, 0, 1)), (LONG, (26, 25, 1, 25, 0)), (BOX, (6, 5, 8, 5, 7)),
                             (BOX, (12, 0, 4, 11, 3))):
            self.assert_accepted(("turned", str(shape), floor), ())
            for wrong in (None, [], "", 0, ((),), (0,), {}, (Plain(),), Plain(), False, DEEP):
                self.assert_refused(("turned", str(shape), floor), wrong)
        for shape, floor in ((LONG, (13, 4, 2, 0, 0)), (LONG, (26, 25, 1, 24, 0)), (BOX, (6, 5, 8, 5, 6)),
                             (BOX, (6, 5, 4, 5, 3)), (LONG, (13, 4, 2, 0, -1)), (LONG, (13, 4, 2, 13, 1))):
            self.assert_refused(("turned", str(shape), floor), ())

    def test_rolled(self):
        for shape in (ONE, BAR, ANGLE, GAP, Shape.read("##"), BLOCK, BOWL, Shape(((0, 0), (500, 0)))):
            for wide, high in ((1, 1), (1, 2), (2, 1), (3, 1), (2, 2), (3, 3), (4, 2), (6, 2), (36, 1), (1, 36), (5, 5)):
                found = fillings(shape, wide, high)
                claim = ("rolled", str(shape), wide, high, len(found))
                self.assert_accepted(claim, found)
                for number in (len(found) - 1, len(found) + 1, -1, True, False, None, str(len(found)), 10 ** 30):
                    self.assert_refused(claim[:4] + (number,), found)
                self.assert_refused(claim, found + (((0, 0),),))
                self.assert_refused(claim, found + ((),))
                self.assert_refused(claim[:4] + (len(found) + 1,), found + (((0, 0),),))
                if found:
                    self.assert_refused(claim[:4] + (len(found) - 1,), found[:-1])
                    self.assert_refused(claim, found[:-1])
                    self.assert_refused(claim, found[1:] + found[:1] if len(found) > 1 else list(found))
                    self.assert_refused(claim[:4] + (0,), ())
                    self.assert_refused(claim[:4] + (len(found) + 1,), found + found[-1:])

    def test_rolled_floors_that_are_none(self):
        for wide, high in ((0, 1), (1, 0), (37, 1), (1, 37), (-3, -1), (6, 7), (36, 2), (19, 2), (36, 36), (10 ** 30, 1),
                           (True, 1), (3, True), (None, 1), (3, "1"), ("3", 1), ((3,), 1), (3, [1])):
            for number, certificate in ((0, ()), (3, fillings(BAR, 3, 1)), (1, (((0, 0),),))):
                self.assert_refused(("rolled", "###", wide, high, number), certificate)
                self.assert_refused(("rolled", "#", wide, high, number), certificate)
        self.assert_accepted(("rolled", "#", 36, 1, 1), (tuple([(x, 0) for x in range(36)]),))

    def test_apart_with_cells_very_far_away(self):
        far = [0, 1, -7, 10 ** 30, -10 ** 30, 10 ** 79]
        for shape, lattice in ((ONE, (1, 0, 1)), (ANGLE, (3, 2, 1)), (BAR, (3, 0, 1)), (SPLIT, (2, 1, 1))):
            for one in itertools.product(far, repeat=2):
                for two in ((0, 0), (10 ** 30, 3), (one[0] + 1, one[1])):
                    shoves = (copy_at(shape, lattice, one), copy_at(shape, lattice, two))
                    claim = ("apart", str(shape), lattice, one, two)
                    self.assertIs(accepts(claim, shoves), shoves[0] != shoves[1])
                    self.assert_refused(claim, shoves[::-1] if shoves[0] != shoves[1] else shoves)
        for wrong in NO_PAIRS:
            self.assert_refused(("apart", "#", (1, 0, 1), wrong, (5, 5)), (wrong, (5, 5)))
            self.assert_refused(("apart", "#", (1, 0, 1), (5, 5), wrong), ((5, 5), wrong))

    def test_greatest_shapes(self):
        far = Shape(((-1000, -1000), (1000, 1000)))
        for shape in (BOX, LONG, Shape(tuple([(x, 0) for x in range(24)])), Shape(BOX.cells[1:]), far,
                      far.summed(((0, 0), (1000, -1000)))):
            claim, certificate = certify_shape(shape)
            self.assert_accepted(claim, certificate)
            self.assert_refused(claim, certificate[:-1])
            self.assert_refused((claim[0], claim[1] + "\n") + claim[2:], certificate)
        self.assert_refused(("fills", "#" * 25, (25, 0, 1)), tuple([(x, 0) for x in range(25)]))
        self.assert_refused(("stuck", "#" * 26 + ".#"), ((0, 1),) * 40)


class TestWrong(CheckerCase):
    def test_each_one_changed_in_one_place(self):
        refused = 0
        for claim, certificate in SOME:
            self.assertIs(is_right(claim, certificate), True)
            self.assert_accepted(claim, certificate)
            for other in nearly(claim):
                right = is_right(other, certificate)
                self.assertIs(accepts(other, certificate), right, (other, certificate))
                refused += not right
            for other in nearly(certificate):
                right = is_right(claim, other)
                self.assertIs(accepts(claim, other), right, (claim, other))
                refused += not right
        self.assertGreater(refused, 4000)

    def test_certificates_of_others(self):
        for (claim, own), (_, other) in itertools.product(SOME, repeat=2):
            self.assertIs(accepts(claim, other), is_right(claim, other))
            self.assert_refused(own, other)
            self.assert_refused(own, claim)
            self.assert_refused(claim, claim)

    def test_other_words(self):
        words = ["fills", "stuck", "cut", "hues", "turned", "rolled", "apart", "many", "whole", "by", "", "Fills", None]
        for claim, certificate in SOME:
            for word in words:
                if word != claim[0]:
                    other = (word,) + claim[1:]
                    self.assertIs(accepts(other, certificate), is_right(other, certificate))

    def test_texts_that_are_none_of_a_shape(self):
        for text in NO_TEXTS:
            for claim, certificate in SOME:
                self.assert_refused((claim[0], text) + claim[2:], certificate)
        for text, lattice in (("#.", (1, 0, 1)), (".#", (1, 0, 1)), ("#\n.", (1, 0, 1)), ("#\n", (1, 0, 1))):
            self.assert_refused(("fills", text, lattice), ((0, 0),))
            self.assert_refused(("fills", text, lattice), ((1, 0),))

    def test_lattices_that_are_none(self):
        for wrong in NO_LATTICES:
            self.assert_refused(("fills", "#.\n##", wrong), ((0, 0), (1, 0), (2, 0)))
            self.assert_refused(("fills", "#", wrong), ((0, 0),))
            self.assert_refused(("hues", "#", wrong, (2, 1, 1)), ((-1, 0), (0, -1), (0, 1), (1, 0)))
            self.assert_refused(("apart", "#", wrong, (0, 0), (0, 1)), ((0, 0), (0, 1)))
            self.assert_refused(("turned", "#", wrong), ())
            self.assert_refused(("cut", "#", wrong), ("r", "d"))

    def test_values_of_any_kind(self):
        for claim in ANY_VALUES:
            for certificate in ANY_VALUES:
                self.assert_refused(claim, certificate)
            for right, certificate in SOME:
                self.assert_refused(claim, certificate)
        for claim, own in SOME:
            for certificate in ANY_VALUES:
                self.assertIs(accepts(claim, certificate), is_right(claim, certificate))
            for at in range(1, len(claim)):
                for value in ANY_VALUES:
                    other = claim[:at] + (value,) + claim[at + 1:]
                    self.assertIs(accepts(other, own), is_right(other, own))

    def test_truths_and_lists_beside_the_same_numbers(self):
        claim, certificate = ANGLE_CLAIM
        self.assert_accepted(claim, certificate)
        for other in (((0, 0), (True, 0), (2, 0)), ((False, 0), (1, 0), (2, 0)), ([0, 0], (1, 0), (2, 0)),
                      [(0, 0), (1, 0), (2, 0)], (Plain(), (1, 0), (2, 0)), ((0, 0), (1, Plain()), (2, 0))):
            self.assert_refused(claim, other)
        self.assert_accepted(("fills", "##", (2, 1, 1)), ((0, 0), (1, 0)))
        self.assert_refused(("fills", "##", (2, True, 1)), ((0, 0), (1, 0)))
        self.assert_refused(("fills", "##", [2, 1, 1]), ((0, 0), (1, 0)))
        self.assert_refused(["fills", "##", (2, 1, 1)], ((0, 0), (1, 0)))
        self.assert_accepted(("stuck", "#.#"), ((0, 1), (0, 1), (0, 1)))
        self.assert_refused(("stuck", "#.#"), ((0, 1), (0, True), (0, 1)))
        self.assert_refused(("stuck", "#.#"), ((0, 1), (False, 1), (0, 1)))
        self.assert_refused(("stuck", "#.#"), ((0, 1), (1, 0), (0, 1)))
        self.assert_refused(("stuck", "#.#"), ((0, 1), [0, 1], (0, 1)))


class TestInterface(CheckerCase):
    def test_defined_here(self):
        self.assertEqual(accepts.__module__, module.__name__)

    def test_by_name(self):
        claim, certificate = ANGLE_CLAIM
        self.assertIs(accepts(certificate=certificate, claim=claim), True)
        self.assertIs(accepts(certificate=claim, claim=certificate), False)

    def test_what_is_passed_is_not_changed(self):
        claim, certificate = ["fills", "#", [1, 0, 1]], [[0, 0]]
        self.assert_refused(claim, certificate)
        self.assertEqual((claim, certificate), (["fills", "#", [1, 0, 1]], [[0, 0]]))

    def test_examples(self):
        self.assert_same(
            [accepts(("stuck", "##.#"), ((1, 2), (0, 1), (0, 2), (0, 1))),
             accepts(("fills", "#.#", (2, 0, 1)), ((0, 0), (0, 0))),
             accepts(("apart", "###", (3, 0, 1), (0, 0), (4, 5)), ((0, 0), (3, 5)))],
            [False, False, True])
