import copy
import itertools

from shovefloors import shapes
from shovefloors.errors import InvalidCell, InvalidCells, InvalidShoves, InvalidText, NotAShape, TooGreat
from shovefloors.shapes import Shape, same_kind
from tests.support import NO_PAIRS, NO_TUPLES, Case, Plain

ANGLE = Shape.read("#.\n##")
BAR = Shape(((4, 7), (5, 7), (6, 7)))
CROSS = Shape.read(".#.\n###\n.#.")
TEE = Shape.read("###\n.#.")
BOWL = Shape.read("#.#\n###")
GAP = Shape.read("#.#")
# It has no symmetry at all.
HOOK = Shape.read("##..\n.###\n...#\n..#.")
ROW = tuple([(x, 0) for x in range(24)])
FAR = Shape(((-1000, -1000), (1000, 1000)))


class TestMade(Case):
    def test_cells_are_told_ascending_from_zero(self):
        cells = ((0, 0), (0, 1), (1, 1), (3, 0))
        for shove in ((0, 0), (5, 9), (-3, -1), (-1000, 997), (997, -1000)):
            for order in itertools.permutations(cells):
                passed = tuple([(x + shove[0], y + shove[1]) for x, y in order])
                self.assertEqual(Shape(passed).cells, cells)

    def test_least_column_and_line_may_be_of_different_cells(self):
        self.assertEqual(Shape(((5, -3), (4, 8), (9, 1))).cells, ((0, 11), (1, 0), (5, 4)))
        self.assertIs(Shape(((5, -3),)).cells.__class__, tuple)

    def test_one_cell_and_twenty_four(self):
        for cell in ((0, 0), (1000, -1000), (-1000, 1000), (7, 7)):
            self.assertEqual(Shape((cell,)).cells, ((0, 0),))
        self.assertEqual(Shape(ROW).cells, ROW)

    def test_greatest_numbers(self):
        self.assertEqual(FAR.cells, ((0, 0), (2000, 2000)))
        self.assertEqual(Shape(((-1000, 1000), (1000, -1000))).cells, ((0, 2000), (2000, 0)))

    def test_numbers_beyond(self):
        for number in (-1001, 1001, -10 ** 79, 10 ** 79):
            self.assert_index(InvalidCells, 0, Shape, ((number, 0),))
            self.assert_index(InvalidCells, 0, Shape, ((0, number),))
            self.assert_index(InvalidCells, 2, Shape, ((0, 0), (1, 0), (0, number), (number, 0)))

    def test_twenty_fifth(self):
        self.assert_index(InvalidCells, 24, Shape, ROW + ((24, 0),))
        self.assert_index(InvalidCells, 24, Shape, ROW + ((24, 0), (25, 0), None))
        self.assert_index(InvalidCells, 24, Shape, ROW + (None,))
        self.assert_index(InvalidCells, 24, Shape, ROW + ((0, 0),))

    def test_stood_before(self):
        self.assert_index(InvalidCells, 1, Shape, ((0, 0), (0, 0)))
        self.assert_index(InvalidCells, 3, Shape, ((0, 0), (1, 0), (2, 0), (0, 0), (1, 0)))
        self.assert_index(InvalidCells, 23, Shape, ROW[:23] + ((22, 0), (24, 0)))

    def test_no_pairs(self):
        for wrong in NO_PAIRS:
            self.assert_index(InvalidCells, 0, Shape, (wrong,))
            self.assert_index(InvalidCells, 0, Shape, (wrong, wrong))
            self.assert_index(InvalidCells, 2, Shape, ((0, 0), (1, 1), wrong, (3, 3)))

    def test_true_does_not_stand_for_one(self):
        self.assert_index(InvalidCells, 1, Shape, ((1, 0), (True, 0)))
        self.assert_index(InvalidCells, 1, Shape, ((5, 5), (1, False)))

    def test_first_wrong_of_several(self):
        self.assert_index(InvalidCells, 1, Shape, ((0, 0), None, (0, 0), (2000, 0)))
        self.assert_index(InvalidCells, 1, Shape, ((0, 0), (0, 0), None, (2000, 0)))
        self.assert_index(InvalidCells, 1, Shape, ((0, 0), (2000, 0), (0, 0), None))
        self.assert_index(InvalidCells, 4, Shape, ROW[:4] + ((1001, 0),) + ROW)

    def test_none_for_none_and_for_no_tuple(self):
        self.assert_index(InvalidCells, None, Shape, ())
        for wrong in NO_TUPLES:
            self.assert_index(InvalidCells, None, Shape, wrong)

    def test_by_name(self):
        self.assertEqual(Shape(cells=((3, 3),)).cells, ((0, 0),))
        self.assert_index(InvalidCells, None, Shape, cells=[])

    def test_what_is_passed_is_not_changed(self):
        passed = ((3, 1), (2, 5))
        Shape(passed)
        self.assertEqual(passed, ((3, 1), (2, 5)))
        wrong = [(1, 1), (0, 0)]
        self.assert_index(InvalidCells, None, Shape, wrong)
        self.assertEqual(wrong, [(1, 1), (0, 0)])


class TestRead(Case):
    def test_texts(self):
        texts = {
            "#": ((0, 0),), "##": ((0, 0), (1, 0)), "#\n#": ((0, 0), (0, 1)), "#.\n##": ((0, 0), (0, 1), (1, 1)),
            "#.#": ((0, 0), (2, 0)), "#\n.\n#": ((0, 0), (0, 2)), ".#\n#.": ((0, 1), (1, 0)),
            "#....\n.....\n....#": ((0, 0), (4, 2)), "#" * 24: ROW}
        for text, cells in texts.items():
            self.assertEqual(Shape.read(text).cells, cells)
            self.assertEqual(str(Shape.read(text)), text)
            self.assertIs(Shape.read(text).__class__, Shape)
            self.assertEqual(Shape(cells), Shape.read(text))

    def test_every_small_text(self):
        for wide, high in itertools.product(range(1, 4), range(1, 4)):
            for signs in itertools.product("#.", repeat=wide * high):
                lines = ["".join(signs[wide * y:wide * y + wide]) for y in range(high)]
                text = "\n".join(lines)
                columns = ["".join(column) for column in zip(*lines)]
                ends = [lines[0], lines[-1], columns[0], columns[-1]]
                if all("#" in end for end in ends):
                    self.assertEqual(str(Shape.read(text)), text)
                else:
                    self.assert_given(InvalidText, text, Shape.read, text)

    def test_no_texts(self):
        wrong = [
            "", "\n", ".", "...\n...", " ", "#x", "x", "# #", "#.\n#", "#\n#.", "##\n#", "#.\n.#\n", "\n#", "#\n",
            "#\n\n#", "#\r\n#", "##\r", "#\t#", ".#", "#.", ".#\n.#", "#.\n#.", "..\n##", "##\n..", "#" * 25,
            "\n".join(["#" * 5] * 5),
            "#/#", "#.\n##\n", " #", "# ", "#\n #", "#o\n##", "#\x0b#", "#.#\n##", "#" * 1000]
        for text in wrong:
            self.assert_given(InvalidText, text, Shape.read, text)

    def test_no_strings(self):
        wrong = [None, True, 0, 35, (), ("#",), ["#"], b"#", {"#": 1}, {"#"}, Plain(), ANGLE, Shape, ((0, 0),)]
        for value in wrong:
            self.assert_given(InvalidText, value, Shape.read, value)

    def test_further_than_the_numbers_of_cells(self):
        text = "#" + "." * 2998 + "#"
        self.assertEqual(Shape.read(text).cells, ((0, 0), (2999, 0)))
        self.assertEqual(str(Shape.read(text)), text)
        self.assertEqual(Shape.read("\n".join(text)).cells, ((0, 0), (0, 2999)))

    def test_texts_of_shapes_that_lie_far_apart(self):
        self.assertEqual(Shape.read(str(FAR)), FAR)
        shape = FAR.summed(((-1000, 1000), (1000, 0)))
        self.assertEqual(Shape.read(str(shape)), shape)

    def test_by_name_and_off_an_object(self):
        self.assertEqual(Shape.read(text="###"), BAR)
        self.assertEqual(ANGLE.read("###"), BAR)
        self.assert_given(InvalidText, None, Shape.read, text=None)


class TestMeasures(Case):
    def assert_told(self, text, is_piece, is_whole):
        shape = Shape.read(text)
        self.assertIs(shape.is_piece, is_piece, text)
        self.assertIs(shape.is_whole, is_whole, text)

    def test_wide_high_and_length(self):
        told = [(ANGLE, 2, 2, 3), (BAR, 3, 1, 3), (GAP, 3, 1, 2), (TEE, 3, 2, 4), (HOOK, 4, 4, 7),
                (Shape(((9, 9),)), 1, 1, 1), (Shape(ROW), 24, 1, 24), (FAR, 2001, 2001, 2),
                (Shape.read("..#\n#..\n..#\n.#."), 3, 4, 4)]
        for shape, wide, high, many in told:
            self.assertEqual((shape.wide, shape.high, len(shape)), (wide, high, many))

    def test_wide_and_high_of_cells_in_any_order(self):
        shape = Shape(((3, 0), (0, 5), (1, 9), (2, 1)))
        self.assertEqual((shape.wide, shape.high), (4, 10))

    def test_whole_ones(self):
        for text in ("#", "##", "#\n#", "#.\n##", "###\n###\n###", ".#.\n###\n.#.", "#" * 24, "\n".join("#" * 24)):
            self.assert_told(text, True, True)

    def test_bays_that_are_open(self):
        for text in ("#.#\n###", "##\n#.\n##", "####\n#..#\n#.##", "#####\n#...#\n#.#.#\n#.###",
                     "###\n..#\n###\n#..\n###"):
            self.assert_told(text, True, True)

    def test_holes(self):
        ring = "###\n#.#\n###"
        great = "#######\n#.....#\n#.....#\n#.....#\n#.....#\n#######"
        for text in (ring, "#####\n#.#.#\n#####", "####\n#..#\n####", "####.\n#..##\n##..#\n.####", great):
            self.assert_told(text, True, False)

    def test_holes_that_are_closed_at_a_corner(self):
        for text in (".##\n#.#\n###", "##.\n#.#\n###", "###\n#.#\n##.", "###\n#.#\n.##", ".##.\n##.#\n#.##\n####"):
            self.assert_told(text, True, False)

    def test_several_pieces(self):
        for text in ("#.#", "#\n.\n#", "##.##", "##.\n...\n.##", "####.#"):
            self.assert_told(text, False, False)

    def test_cells_that_touch_at_a_corner_alone(self):
        for text in ("#.\n.#", ".#\n#.", "##..\n..##", "#.#\n.#.\n#.#", ".#.\n#.#\n.#."):
            self.assert_told(text, False, False)

    def test_a_piece_within_a_ring(self):
        self.assert_told("#####\n#...#\n#.#.#\n#...#\n#####", False, False)

    def test_cells_very_far_from_one_another(self):
        others = [Shape(((-1000, 1000), (1000, -1000))), Shape(((-1000, 0), (1000, 0), (0, 0)))]
        for shape in others + [FAR, FAR.summed(((0, 0), (1, 0)))]:
            self.assertIs(shape.is_piece, False)
            self.assertIs(shape.is_whole, False)

    def test_far_from_zero(self):
        self.assertIs(Shape(((1000, 1000), (999, 1000))).is_whole, True)
        self.assertIs(Shape(((-1000, -1000), (-1000, -999))).is_whole, True)

    def test_every_shape_in_four_by_four(self):
        for many in range(1, 2 ** 16, 37):
            cells = [(at % 4, at // 4) for at in range(16) if many >> at & 1]
            shape = Shape(tuple(cells))
            self.assertIs(shape.is_piece, count_pieces(cells) == 1)
            around = [(x, y) for x in range(-1, 5) for y in range(-1, 5) if (x, y) not in cells]
            self.assertIs(shape.is_whole, count_pieces(cells) == 1 == count_pieces(around))

    def test_they_cannot_be_set(self):
        for name in ("cells", "wide", "high", "is_piece", "is_whole"):
            self.assertIsInstance(vars(Shape)[name], property)


def count_pieces(cells):
    """How many pieces some cells make: each begins with its own label, and neighbours take the lesser one."""
    labels = {cell: at for at, cell in enumerate(cells)}
    for _ in cells:
        for x, y in cells:
            around = [(x, y), (x + 1, y), (x - 1, y), (x, y + 1), (x, y - 1)]
            labels[x, y] = min(labels[cell] for cell in around if cell in labels)
    return len(set(labels.values()))


class TestTurns(Case):
    def test_turned(self):
        self.assertEqual(str(HOOK.turned()), ".#..\n#...\n###.\n..##")
        self.assertEqual(str(ANGLE.turned()), "##\n.#")

    def test_quarter(self):
        self.assertEqual(str(HOOK.quarter()), "...#\n..##\n#.#.\n.##.")
        self.assertEqual(str(TEE.quarter()), ".#\n##\n.#")
        self.assertEqual(str(BAR.quarter()), "#\n#\n#")

    def test_first_line_becomes_last_column(self):
        for text in ("#.##\n.#..", "##.#\n#...\n..##", "#..\n.##\n.#.\n#.."):
            rows = text.split("\n")
            turned = str(Shape.read(text).quarter()).split("\n")
            self.assertEqual("".join([row[-1] for row in turned]), rows[0])
            self.assertEqual("".join([row[0] for row in turned]), rows[-1])

    def test_flipped(self):
        self.assertEqual(str(HOOK.flipped()), "..##\n###.\n#...\n.#..")
        self.assertEqual(str(ANGLE.flipped()), ".#\n##")

    def test_they_lead_back(self):
        for shape in (HOOK, ANGLE, BAR, CROSS, TEE, BOWL, GAP, FAR, Shape(((0, 0),)), Shape(ROW)):
            self.assertEqual(shape.quarter().quarter().quarter().quarter(), shape)
            self.assertEqual(shape.turned().turned(), shape)
            self.assertEqual(shape.flipped().flipped(), shape)
            self.assertEqual(shape.quarter().quarter(), shape.turned())
            self.assertEqual(shape.flipped().turned(), shape.turned().flipped())

    def test_without_symmetry_all_are_different(self):
        found = [HOOK]
        for _ in range(3):
            found.append(found[-1].quarter())
        found = found + [shape.flipped() for shape in found]
        self.assertEqual(len({str(shape) for shape in found}), 8)

    def test_the_shape_stays(self):
        cells = HOOK.cells
        for made in (HOOK.turned(), HOOK.quarter(), HOOK.flipped()):
            self.assertIs(made.__class__, Shape)
            self.assertNotEqual(made, HOOK)
        self.assertEqual(HOOK.cells, cells)

    def test_cells_are_from_zero(self):
        for made in (HOOK.turned(), HOOK.quarter(), HOOK.flipped()):
            self.assertEqual(made.cells, Shape(made.cells).cells)
            self.assertEqual(made.cells, tuple(sorted(made.cells)))


class TestHolds(Case):
    def test_cells_of_it_and_others(self):
        for shape in (ANGLE, BAR, CROSS, TEE, BOWL, GAP, HOOK):
            for cell in itertools.product(range(-2, 6), range(-2, 6)):
                self.assertIs(shape.holds(cell), cell in shape.cells)

    def test_cells_as_they_are_told_not_as_they_were_passed(self):
        self.assertIs(BAR.holds((4, 7)), False)
        self.assertIs(BAR.holds((2, 0)), True)

    def test_cells_very_far_away(self):
        for cell in ((10 ** 79, 0), (0, -10 ** 79), (1001, 0), (-5000, 7), (2000, 2001)):
            self.assertIs(ANGLE.holds(cell), False)
        self.assertIs(FAR.holds((2000, 2000)), True)

    def test_no_cells(self):
        for wrong in NO_PAIRS:
            self.assert_given(InvalidCell, wrong, ANGLE.holds, wrong)
        self.assert_given(InvalidCell, None, ANGLE.holds, cell=None)

    def test_by_name(self):
        self.assertIs(ANGLE.holds(cell=(0, 1)), True)
        self.assertIs(ANGLE.holds(cell=(1, 0)), False)


class TestSummed(Case):
    def test_sums(self):
        self.assertEqual(str(GAP.summed(((0, 0), (1, 0)))), "####")
        self.assertEqual(str(ANGLE.summed(((0, 0), (2, 1)))), "#...\n###.\n..##")
        self.assertEqual(str(ANGLE.summed(((2, 1), (0, 0)))), "#...\n###.\n..##")
        self.assertEqual(ANGLE.summed(((0, 0),)), ANGLE)
        self.assertEqual(ANGLE.summed(((-1000, 1000),)), ANGLE)
        self.assertEqual(Shape(((0, 0),)).summed(ROW), Shape(ROW))
        self.assertEqual(Shape(ROW).summed(((3, 3),)), Shape(ROW))
        self.assertEqual(len(Shape(ROW[:8]).summed(((0, 0), (0, 1), (5, 2)))), 24)

    def test_sums_that_reach_far(self):
        shape = FAR.summed(((-1000, 1000), (1000, -999)))
        self.assertEqual(shape.cells, ((0, 1999), (2000, 0), (2000, 3999), (4000, 2000)))
        self.assertEqual((shape.wide, shape.high), (4001, 4000))
        self.assertEqual(shape.turned().turned().flipped().flipped(), shape)

    def test_the_shape_and_the_shoves_stay(self):
        shoves = ((5, 5), (0, 0))
        cells = ANGLE.cells
        self.assertIs(ANGLE.summed(shoves).__class__, Shape)
        self.assertEqual((ANGLE.cells, shoves), (cells, ((5, 5), (0, 0))))

    def test_no_pairs(self):
        for wrong in NO_PAIRS:
            self.assert_index(InvalidShoves, 0, ANGLE.summed, (wrong,))
            self.assert_index(InvalidShoves, 1, ANGLE.summed, ((0, 0), wrong, (0, 0)))

    def test_numbers(self):
        for number in (-1001, 1001, 10 ** 79):
            self.assert_index(InvalidShoves, 1, ANGLE.summed, ((0, 0), (number, 0)))
            self.assert_index(InvalidShoves, 1, ANGLE.summed, ((0, 0), (0, number)))
        self.assertEqual(len(ANGLE.summed(((-1000, -1000), (1000, 1000)))), 6)

    def test_stood_before(self):
        self.assert_index(InvalidShoves, 2, ANGLE.summed, ((0, 0), (9, 9), (0, 0)))
        self.assert_index(InvalidShoves, 1, ANGLE.summed, ((1, 0), (True, 0)))

    def test_twenty_fifth(self):
        self.assert_index(InvalidShoves, 24, Shape(((0, 0),)).summed, ROW + ((24, 0),))
        self.assert_index(InvalidShoves, 24, ANGLE.summed, ROW + (None,))
        self.assert_index(InvalidShoves, 3, ANGLE.summed, ROW[:3] + (None,) + ROW)

    def test_none_for_none_and_for_no_tuple(self):
        self.assert_index(InvalidShoves, None, ANGLE.summed, ())
        for wrong in NO_TUPLES:
            self.assert_index(InvalidShoves, None, ANGLE.summed, wrong)

    def test_too_many_cells(self):
        self.assert_number(TooGreat, 25, CROSS.summed, ROW[:5])
        self.assert_number(TooGreat, 27, ANGLE.summed, ROW[:9])
        self.assert_number(TooGreat, 48, Shape(ROW).summed, ((0, 0), (0, 1)))
        self.assert_number(TooGreat, 576, Shape(ROW).summed, ROW)

    def test_two_copies_hold_one_cell(self):
        self.assert_number(TooGreat, 0, BAR.summed, ((0, 0), (2, 0)))
        self.assert_number(TooGreat, 0, ANGLE.summed, ((0, 0), (100, 0), (1, 1)))
        self.assert_number(TooGreat, 0, FAR.summed, ((-1000, -1000), (1000, 1000)))

    def test_order_of_errors(self):
        # Two copies would hold one cell in each of these.
        self.assert_number(TooGreat, 27, BAR.summed, ROW[:9])
        self.assert_index(InvalidShoves, 9, BAR.summed, ROW[:9] + (None,))
        self.assert_index(InvalidShoves, 2, BAR.summed, ((0, 0), (1, 0), (1001, 0)))
        self.assert_number(TooGreat, 0, BAR.summed, ROW[:8])

    def test_by_name(self):
        self.assertEqual(len(BAR.summed(shoves=((0, 0), (0, 1)))), 6)
        self.assert_index(InvalidShoves, None, BAR.summed, shoves=None)


class TestTold(Case):
    def test_text(self):
        self.assertEqual(str(Shape(((0, 0),))), "#")
        self.assertEqual(str(Shape(((4, 4), (6, 4), (5, 6)))), "#.#\n...\n.#.")
        self.assertEqual(str(BAR), "###")

    def test_great_text(self):
        rows = str(FAR).split("\n")
        self.assertEqual((len(rows), {len(row) for row in rows}), (2001, {2001}))
        self.assertEqual((rows[0], rows[-1]), ("#" + "." * 2000, "." * 2000 + "#"))
        self.assertEqual(set(rows[1:-1]), {"." * 2001})

    def test_repr(self):
        self.assertEqual(repr(Shape(((0, 0),))), "Shape of 1 cells")
        self.assertEqual(repr(ANGLE), "Shape of 3 cells")
        self.assertEqual(repr(Shape(ROW)), "Shape of 24 cells")

    def test_true(self):
        for shape in (ANGLE, Shape(((0, 0),)), FAR):
            self.assertTrue(shape)

    def test_equal(self):
        ways = [ANGLE, Shape(((1, 1), (0, 0), (0, 1))), Shape(((-5, 8), (-4, 9), (-5, 9))),
                Shape.read("##\n.#").turned(), Shape.read("##\n#.").quarter().quarter().quarter(),
                Shape(((3, 3),)).summed(((7, 8), (8, 9), (7, 9)))]
        for one, two in itertools.product(ways, ways):
            self.assertIs(one == two, True)
            self.assertIs(one != two, False)

    def test_not_equal(self):
        different = (ANGLE, BAR, CROSS, TEE, BOWL, GAP, HOOK, ANGLE.turned(), BAR.quarter())
        for one, two in itertools.permutations(different, 2):
            self.assertIs(one == two, False)
            self.assertIs(one != two, True)

    def test_beside_values_of_other_classes(self):
        for other in [None, True, 3, "#.\n##", ANGLE.cells, list(ANGLE.cells), {}, Plain(), Shape, repr(ANGLE)]:
            self.assertIs(ANGLE == other, False)
            self.assertIs(ANGLE != other, True)
        for other in [None, True, 3, "#.\n##", ANGLE.cells, [], {}]:
            self.assertIs(other == ANGLE, False)
            self.assertIs(other != ANGLE, True)


class TestSameKind(Case):
    def test_same(self):
        for shape in (HOOK, ANGLE, BAR, CROSS, TEE, BOWL, GAP, FAR, Shape(((0, 0),))):
            turned = shape
            for _ in range(4):
                turned = turned.quarter()
                for other in (turned, turned.flipped(), turned.turned(), turned.flipped().turned()):
                    self.assertIs(same_kind(shape, other), True)
                    self.assertIs(same_kind(other, shape), True)

    def test_not_same(self):
        ess = Shape.read(".##\n##.")
        ell = Shape.read("#..\n###")
        for one, two in itertools.permutations((HOOK, ANGLE, BAR, CROSS, TEE, BOWL, GAP, ess, ell), 2):
            self.assertIs(same_kind(one, two), False)

    def test_flips_that_are_no_turns(self):
        ell = Shape.read("#..\n###")
        self.assertIs(same_kind(ell, Shape.read("..#\n###")), True)
        self.assertIs(same_kind(ell, Shape.read("##\n#.\n#.")), True)

    def test_no_shapes(self):
        for wrong in [None, True, 0, "#", ((0, 0),), [ANGLE], (ANGLE,), {}, Plain(), Shape]:
            self.assert_given(NotAShape, wrong, same_kind, wrong, ANGLE)
            self.assert_given(NotAShape, wrong, same_kind, ANGLE, wrong)
            self.assert_given(NotAShape, wrong, same_kind, wrong, "other")
            self.assert_given(NotAShape, wrong, same_kind, other="other", shape=wrong)

    def test_by_name(self):
        self.assertIs(same_kind(shape=ANGLE, other=BAR), False)
        self.assertIs(same_kind(other=ANGLE.turned(), shape=ANGLE), True)

    def test_the_shapes_stay(self):
        one, two = copy.copy(HOOK), HOOK.flipped()
        cells = (one.cells, two.cells)
        same_kind(one, two)
        self.assertEqual((one.cells, two.cells), cells)


class TestInterface(Case):
    def test_defined_here(self):
        self.assertEqual((Shape.__module__, same_kind.__module__), (shapes.__name__, shapes.__name__))
        for name in ("read", "cells", "wide", "high", "is_piece", "is_whole", "turned", "quarter", "flipped", "holds",
                     "summed", "__init__", "__len__", "__str__", "__repr__", "__eq__"):
            self.assertIn(name, vars(Shape))
        self.assertIsInstance(vars(Shape)["read"], staticmethod)

    def test_examples(self):
        angle, bar, cross = Shape.read("#.\n##"), Shape(((4, 7), (5, 7), (6, 7))), Shape.read(".#.\n###\n.#.")
        tee, bowl, gap = Shape.read("###\n.#."), Shape.read("#.#\n###"), Shape.read("#.#")
        self.assertEqual(repr(
            [angle.cells, bar.cells, str(angle.turned()), cross.wide, gap.is_piece, bowl.is_whole,
             Shape.read("###\n#.#\n###").is_whole, repr(tee)]), repr(
            [((0, 0), (0, 1), (1, 1)), ((0, 0), (1, 0), (2, 0)), "##\n.#", 3, False, True, False, "Shape of 4 cells"]))
        self.assertEqual(repr(
            [str(gap.summed(((0, 0), (1, 0)))), str(angle.summed(((0, 0), (2, 1)))), len(cross), tee.holds((0, 1)),
             str(tee.quarter()), str(angle.flipped()), same_kind(angle, angle.turned()), same_kind(bar, gap)]), repr(
            ["####", "#...\n###.\n..##", 5, False, ".#\n##\n.#", ".#\n##", True, False]))
