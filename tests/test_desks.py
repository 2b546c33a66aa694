import itertools
import random

from shovefloors import desks as module
from shovefloors.desks import Desk
from shovefloors.errors import InvalidCell, InvalidShoves, NotAShape, NothingToUndo, TooGreat
from shovefloors.lattices import lattices
from shovefloors.shapes import Shape
from tests.desk_record import Record, any_change
from tests.support import NO_PAIRS, NO_SHAPES, NO_TUPLES, Case, Plain
from tests.trial_cases import TrialCases

ANGLE, BAR, GAP = Shape.read("#.\n##"), Shape(((4, 7), (5, 7), (6, 7))), Shape.read("#.#")
ONE = Shape(((0, 0),))
ROW = tuple([(x, 0) for x in range(24)])
WRONG = Plain()


class TestChanges(Case):
    def told(self, desk):
        return (desk.shape.cells, desk.changes, desk.lattices)

    def assert_told(self, desk, cells, changes):
        self.assertEqual(desk.shape.cells, cells)
        self.assertIs(desk.shape.__class__, Shape)
        self.assert_same(desk.changes, changes)
        self.assert_same(desk.lattices, lattices(desk.shape))

    def test_long_drawn_rows(self):
        for seed in range(12):
            generator = random.Random(seed)
            start = generator.choice([ANGLE, BAR, ONE, Shape(ROW), GAP])
            desk, record, failed = Desk(start), Record(start.cells), {}
            for _ in range(300):
                word, value = any_change(generator, record.cells())
                error, given = record.error_of(word, value)
                arguments = () if word == "undo" else (value,)
                if error is None:
                    self.assertIsNone(getattr(desk, word)(*arguments))
                    record.do(word, value)
                else:
                    with self.assertRaises(error) as caught:
                        getattr(desk, word)(*arguments)
                    self.assertEqual(vars(caught.exception), {} if word == "undo" else {"given": given})
                    failed[word] = True
                self.assert_told(desk, record.cells(), len(record.rows) - 1)
            self.assertLessEqual({"put", "take"}, set(failed))

    def test_back_to_the_beginning(self):
        desk = Desk(ANGLE)
        told = []
        for word, value in (("put", (0, -1)), ("take", (0, 0)), ("repeat", ((0, 0), (4, 0))), ("put", (-1, -1)),
                            ("repeat", ((3, 3),)), ("take", (0, 0))):
            told.append(self.told(desk))
            getattr(desk, word)(value)
        self.assertEqual(desk.changes, 6)
        for wanted in reversed(told):
            self.assertIsNone(desk.undo())
            self.assertEqual(self.told(desk), wanted)
        for _ in range(3):
            self.assert_bare(NothingToUndo, desk.undo)
            self.assert_told(desk, ANGLE.cells, 0)
        desk.put((5, 5))
        self.assertEqual(desk.changes, 1)

    def test_the_shape_is_told_anew(self):
        desk = Desk(ANGLE)
        desk.put((-1, 0))
        self.assert_told(desk, ((0, 0), (1, 0), (1, 1), (2, 1)), 1)
        desk.put((0, -2))
        self.assert_told(desk, ((0, 0), (0, 2), (1, 2), (1, 3), (2, 3)), 2)
        desk.take((0, 0))
        self.assert_told(desk, ((0, 0), (1, 0), (1, 1), (2, 1)), 3)
        desk.take((0, 0))
        self.assert_told(desk, ((0, 0), (0, 1), (1, 1)), 4)

    def test_changes_that_leave_all_as_it_was_count(self):
        desk = Desk(ANGLE)
        for many, shove in enumerate(((0, 0), (5, -7), (-1000, 1000)), 1):
            desk.repeat((shove,))
            self.assert_told(desk, ANGLE.cells, many)
        one = Desk(ONE)
        one.put((0, 1))
        one.take((0, 0))
        self.assert_told(one, ONE.cells, 2)
        one.undo()
        self.assert_told(one, ((0, 0), (0, 1)), 1)

    def test_twenty_four_cells_and_one(self):
        desk = Desk(Shape(ROW))
        self.assert_number(TooGreat, 25, desk.put, (24, 0))
        self.assert_number(TooGreat, 25, desk.put, (-1000, 1000))
        desk.take((7, 0))
        desk.put((7, 0))
        self.assert_told(desk, ROW, 2)
        for x in range(23):
            desk.take((0, 0))
        self.assert_told(desk, ((0, 0),), 25)
        self.assert_number(TooGreat, 0, desk.take, (0, 0))
        self.assert_told(desk, ((0, 0),), 25)

    def test_numbers_of_a_thousand(self):
        desk = Desk(ONE)
        for cell in ((1001, 0), (0, 1001), (-1001, 0), (0, -1001), (10 ** 79, 0), (1000, -1001)):
            self.assert_given(InvalidCell, cell, desk.put, cell)
        desk.put((1000, -1000))
        self.assert_told(desk, ((0, 1000), (1000, 0)), 1)
        desk.put((-1000, 1000))
        self.assert_told(desk, ((0, 1000), (1000, 1000), (2000, 0)), 2)
        # It can be taken although it lies further than one can be put.
        for cell in ((1999, 0), (2000, 1), (-2000, 0)):
            self.assert_given(InvalidCell, cell, desk.take, cell)
        desk.take((2000, 0))
        self.assert_told(desk, ((0, 0), (1000, 0)), 3)

    def test_a_cell_of_the_shape_that_lies_further_is_not_put(self):
        desk = Desk(Shape(((-1000, 0), (1000, 0))))
        cell = (2000, 0)
        self.assert_given(InvalidCell, cell, desk.put, cell)
        self.assert_told(desk, ((0, 0), (2000, 0)), 0)


class TestErrors(Case):
    def test_no_shapes(self):
        for wrong in NO_SHAPES:
            self.assert_given(NotAShape, wrong, Desk, wrong)
            self.assert_given(NotAShape, wrong, Desk, shape=wrong)

    def test_no_cells(self):
        for shape in (ANGLE, ONE, Shape(ROW)):
            desk = Desk(shape)
            for wrong in NO_PAIRS:
                for call in (desk.put, desk.take):
                    self.assert_given(InvalidCell, wrong, call, wrong)
                    self.assert_given(InvalidCell, wrong, call, cell=wrong)
            self.assertEqual((desk.shape, desk.changes), (shape, 0))

    def test_cells_that_are_there_or_are_not(self):
        desk = Desk(ANGLE)
        for cell in itertools.product(range(-2, 4), range(-2, 4)):
            there = cell in ANGLE.cells
            self.assert_given(InvalidCell, cell, desk.put if there else desk.take, cell)
        self.assertEqual((desk.shape, desk.changes), (ANGLE, 0))

    def test_truths_do_not_stand_for_numbers(self):
        desk = Desk(Shape.read("##\n##"))
        for cell in ((True, 0), (0, True), (False, False), (True, True), (0, False)):
            for call in (desk.put, desk.take):
                self.assert_given(InvalidCell, cell, call, cell)

    def test_invalid_cells_ahead_of_too_great(self):
        full, one = Desk(Shape(ROW)), Desk(ONE)
        for cell in ((0, 0), (23, 0), (1001, 0), (0, -1001)):
            self.assert_given(InvalidCell, cell, full.put, cell)
        for cell in ((1, 0), (0, 1), (-1, 0), (1001, 0)):
            self.assert_given(InvalidCell, cell, one.take, cell)
        self.assertEqual((full.changes, one.changes), (0, 0))

    def test_shoves(self):
        desk = Desk(ANGLE)
        for wrong in NO_TUPLES + [()]:
            self.assert_index(InvalidShoves, None, desk.repeat, wrong)
        for wrong in NO_PAIRS + [(1001, 0), (0, -1001)]:
            self.assert_index(InvalidShoves, 1, desk.repeat, ((0, 0), wrong, (0, 0)))
        self.assert_index(InvalidShoves, 2, desk.repeat, ((0, 0), (1, 0), (0, 0)))
        self.assert_index(InvalidShoves, 24, desk.repeat, ROW + ((24, 0),))
        self.assert_number(TooGreat, 72, desk.repeat, ROW)
        self.assert_number(TooGreat, 27, desk.repeat, ROW[:9])
        self.assert_number(TooGreat, 0, desk.repeat, ((0, 0), (0, 1)))
        self.assertEqual((desk.shape, desk.changes), (ANGLE, 0))
        desk.repeat(tuple([(2 * x, 0) for x in range(8)]))
        self.assertEqual((len(desk.shape), desk.changes), (24, 1))

    def test_a_call_that_raises_takes_nothing_away(self):
        desk = Desk(ANGLE)
        desk.put((5, 5))
        told = (desk.shape, desk.changes, desk.lattices)
        for call, wrong in ((desk.put, None), (desk.take, (9, 9)), (desk.repeat, ()), (desk.put, (0, 0))):
            with self.assertRaises(ValueError):
                call(wrong)
            self.assertEqual((desk.shape, desk.changes, desk.lattices), told)


class TestTrials(TrialCases, Case):
    own_error = InvalidCell

    def made(self):
        return Desk(ANGLE)

    def made_again(self):
        desk = Desk(ANGLE)
        for _ in range(3):
            self.change(desk)
        return desk

    def change(self, desk):
        desk.put((desk.shape.wide, 0))

    def told(self, desk):
        return (desk.shape, desk.changes, desk.lattices)

    def fail_at(self, desk):
        desk.put((0, 0))

    def all_taken_back(self, desk):
        found = []
        while desk.changes:
            found.append(self.told(desk))
            desk.undo()
        return found + [self.told(desk)]


class TestSeveral(Case):
    def test_each_goes_on_by_itself(self):
        first, second = Desk(ANGLE), Desk(ANGLE)
        first.put((5, 0))
        self.assertEqual((second.shape, second.changes), (ANGLE, 0))
        third = Desk(first.shape)
        second.take((0, 0))
        third.repeat(((0, 0), (0, 5)))
        self.assertEqual([desk.changes for desk in (first, second, third)], [1, 1, 1])
        self.assertEqual([len(desk.shape) for desk in (first, second, third)], [4, 2, 8])
        with first.trial(), second.trial():
            first.undo()
            second.undo()
            third.undo()
        self.assertEqual([desk.changes for desk in (first, second, third)], [1, 1, 0])
        self.assertEqual(ANGLE.cells, ((0, 0), (0, 1), (1, 1)))

    def test_what_was_handed_out_stays(self):
        desk = Desk(BAR)
        shape, changes, found = desk.shape, desk.changes, desk.lattices
        desk.put((0, 1))
        desk.repeat(((0, 0), (10, 0)))
        self.assertEqual(shape, BAR)
        self.assertEqual((changes, found), (0, ((3, 0, 1), (3, 1, 1), (3, 2, 1))))

    def test_a_desk_equals_itself_alone(self):
        first = Desk(ANGLE)
        self.assert_alone([first, Desk(ANGLE), Desk(first.shape), first.trial()])
        first.put((4, 4))
        self.assertIs(first == first, True)

    def test_shapes_are_equal_by_their_cells(self):
        first, second = Desk(ANGLE), Desk(ANGLE)
        first.put((0, -1))
        second.put((0, 2))
        self.assertNotEqual(first.shape, second.shape)
        first.undo()
        first.put((0, -1))
        first.take((1, 2))
        self.assertEqual(first.shape, Shape.read("#\n#\n#"))


class TestInterface(Case):
    def test_defined_here(self):
        self.assertEqual(Desk.__module__, module.__name__)
        for name in ("put", "take", "repeat", "shape", "changes", "lattices", "undo", "trial", "tried"):
            self.assertIn(name, vars(Desk))

    def test_by_name(self):
        desk = Desk(shape=ANGLE)
        desk.put(cell=(2, 0))
        desk.take(cell=(0, 0))
        desk.repeat(shoves=((0, 0), (0, 5)))
        self.assertEqual((len(desk.shape), desk.changes), (6, 3))
        self.assertEqual(desk.tried(action=lambda held: held.changes), 3)
        self.assert_given(InvalidCell, WRONG, desk.put, cell=WRONG)

    def test_properties_are_not_assigned(self):
        desk = Desk(ANGLE)
        for name in ("shape", "changes", "lattices"):
            with self.assertRaises(AttributeError):
                setattr(desk, name, 1)

    def test_examples(self):
        desk = Desk(ANGLE)
        self.assert_same(
            [desk.put((-1, 0)), desk.shape.cells, desk.lattices, desk.take((1, 1)), str(desk.shape), desk.changes],
            [None, ((0, 0), (1, 0), (1, 1), (2, 1)), ((2, 0, 2), (2, 1, 2), (4, 3, 1)), None, "##.\n..#", 2])
        cell = (9, 9)
        self.assert_given(InvalidCell, cell, desk.take, cell)
