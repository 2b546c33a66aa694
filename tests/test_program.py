"""One way through the whole program: what one module tells must agree with what the others tell."""

import inspect
import itertools
import random

from shovefloors import (books, certificates, checker, console, desks, errors, guesses, kinds_of, lattices, places, rolled,
                         shapes, turning, walks)
from shovefloors.books import Book
from shovefloors.certificates import (certify_apart, certify_cut, certify_hues, certify_rolled, certify_shape,
                                      certify_turned)
from shovefloors.checker import accepts
from shovefloors.console import Console
from shovefloors.desks import Desk
from shovefloors.errors import Broken, NotWhole, TooGreat
from shovefloors.guesses import fitting, shapes_by
from shovefloors.kinds_of import fillers, stuck_shapes, whole_shapes
from shovefloors.places import cells_at, copy_at, least_hues, neighbours
from shovefloors.rolled import fillings, least_rolled
from shovefloors.shapes import Shape
from shovefloors.turning import floor_copy, turned_floors
from shovefloors.walks import cut_of, cuts, lattice_of, shape_of, walk
from tests.support import Case, holds_once

INTERFACE = {
    shapes: ["Shape(cells)", "same_kind(shape, other)"],
    lattices: ["rest(lattice, cell)", "is_filled(shape, lattice)", "lattices(shape)", "fills(shape)", "made_by(shoves)",
               "common(lattice, other)", "down(lattice)"],
    places: ["copy_at(shape, lattice, cell)", "cells_at(shape, lattice, shove)", "neighbours(shape, lattice)",
             "are_fine(shape, lattice, hues)", "least_hues(shape, lattice)", "line_at(shape, lattice, cell, many)"],
    walks: ["walk(shape)", "cuts(shape)", "lattice_of(shape, cut)", "cut_of(shape, lattice)", "parts(shape, cut)",
            "shape_of(text)"],
    turning: ["turned_floors(shape)", "is_turned_floor(shape, floor)", "floor_copy(shape, floor, cell)"],
    rolled: ["fillings(shape, wide, high)", "count_fillings(shape, wide, high)", "least_rolled(shape, most)"],
    kinds_of: ["whole_shapes(many)", "fillers(many)", "stuck_shapes(many)"],
    guesses: ["fitting(shapes, lattice)", "shapes_by(lattice, cells)"],
    desks: ["Desk(shape)"],
    books: ["Book()"],
    checker: ["accepts(claim, certificate)"],
    certificates: ["certify_shape(shape)", "certify_cut(shape)", "certify_turned(shape)",
                   "certify_rolled(shape, wide, high)", "certify_apart(shape, lattice, one, two)",
                   "certify_hues(shape, lattice)"],
    console: ["Console(shape)"]}
METHODS = {
    shapes.Shape: ["turned(self)", "quarter(self)", "flipped(self)", "holds(self, cell)", "summed(self, shoves)"],
    Desk: ["put(self, cell)", "take(self, cell)", "repeat(self, shoves)", "undo(self)", "trial(self)",
           "tried(self, action)"],
    Book: ["drop(self, name)", "wish(self, wish)", "lift(self, index)", "undo(self)",
           "do_all(self, *deeds, watch=None)", "trial(self)", "tried(self, action)"],
    Console: ["say(self, line)"]}
PROPERTIES = {
    shapes.Shape: ["cells", "wide", "high", "is_piece", "is_whole"], Desk: ["shape", "changes", "lattices"],
    Book: ["names", "wishes", "changes"]}


def some_shapes():
    """Shapes of many kinds: whole ones, such in several pieces, few cells and many."""
    generator = random.Random(11)
    places_around = list(itertools.product(range(7), range(5)))
    found = [shape for many in (1, 3, 4, 5) for shape in whole_shapes(many)[::5]]
    for many in (2, 3, 4, 5, 6, 8, 12, 24):
        found.append(Shape(tuple(generator.sample(places_around, many))))
        found.append(Shape(tuple(itertools.product(range(many // 2 or 1), range(2)))))
        found.append(Shape(tuple([(2 * x, x // 2) for x in range(many)])))
    return found


SHAPES = some_shapes()


class TestOneWay(Case):
    def assert_walk(self, shape, found):
        if not shape.is_whole:
            self.assert_bare(NotWhole, walk, shape)
            self.assert_bare(NotWhole, certify_cut, shape)
            return
        self.assertEqual(shape_of(walk(shape)), shape)
        self.assertEqual(sorted([lattice_of(shape, cut) for cut in cuts(shape)]), list(found))
        self.assertEqual([lattice_of(shape, cut_of(shape, lattice)) for lattice in found], list(found))
        if found:
            self.assertIs(accepts(*certify_cut(shape)), True)
        else:
            self.assertIsNone(certify_cut(shape))

    def assert_places(self, shape, lattice):
        wide, slip, high = lattice
        block = list(itertools.product(range(-3, 6), range(-2, 4)))
        shoves = {copy_at(shape, lattice, cell) for cell in block}
        self.assertTrue(holds_once([cell for shove in shoves for cell in cells_at(shape, lattice, shove)], block))
        for shove in neighbours(shape, lattice):
            self.assertIs(accepts(*certify_apart(shape, lattice, shape.cells[0], (
                shape.cells[0][0] + shove[0], shape.cells[0][1] + shove[1]))), True)
        try:
            self.assertIs(accepts(*certify_hues(shape, lattice)), True)
        except TooGreat as error:
            self.assertGreater(error.given, 24)
        # The shape that is chosen of one copy alone is this copy.
        self.assertEqual(shapes_by(lattice, shape.cells), 1)
        self.assertEqual(fitting((shape, shape.turned()), lattice)[0], 0)

    def test_lattices_cuts_and_places(self):
        for shape in SHAPES:
            found = lattices.lattices(shape)
            claim, certificate = certify_shape(shape)
            self.assertEqual(claim[0], "fills" if found else "stuck")
            self.assertIs(accepts(claim, certificate), True)
            self.assertIs(lattices.fills(shape), found != ())
            self.assert_walk(shape, found)
            for lattice in found[:3]:
                self.assert_places(shape, lattice)

    def test_floors(self):
        for shape in SHAPES:
            if len(shape) > 6:
                continue
            floors = turned_floors(shape)
            if not floors:
                self.assertIsNone(certify_turned(shape))
                continue
            self.assertIs(accepts(*certify_turned(shape)), True)
            for index, turned, shove in [floor_copy(shape, floors[-1], cell) for cell in ((0, 0), (-9, 8))]:
                self.assertEqual((index in range(len(shape)), turned in (True, False), len(shove)), (True, True, 2))

    def test_fillings(self):
        for shape in SHAPES:
            for wide, high in ((3, 1), (2, 2), (4, 2), (3, 3), (6, 2), (5, 5), (4, 6)):
                found = certify_rolled(shape, wide, high)
                self.assertIs(accepts(*found), True)
                self.assertEqual(found[1], fillings(shape, wide, high))
            least = least_rolled(shape, 36)
            if least is not None:
                self.assertIs(accepts(*certify_rolled(shape, *least)), True)
                self.assertNotEqual(fillings(shape, *least), ())

    def test_a_book_answers_alike(self):
        for shape in SHAPES:
            found, book = lattices.lattices(shape), Book()
            book["it"] = shape
            right = [("fills", "it") if found else ("stuck", "it"), ("many", "it", len(found))]
            wrong = [("stuck", "it") if found else ("fills", "it"), ("many", "it", len(found) + 1)]
            (right if shape.is_whole else wrong).append(("whole", "it"))
            for lattice in found[:2]:
                number = least_hues(shape, lattice)
                right += [("by", "it", lattice), ("hues", "it", lattice, number)]
                wrong.append(("hues", "it", lattice, number - 1))
            self.assertEqual(book.do_all(*[("wish", wish) for wish in right]), len(right))
            for wish in wrong:
                self.assert_index(Broken, len(right), book.wish, wish)
            self.assertEqual(book.wishes, tuple(right))

    def test_a_desk_and_a_console_answer_alike(self):
        for shape in SHAPES:
            desk, talk = Desk(shape), Console(shape)
            for line in ("put 1 0", "put 0 -1", "take 0 0", "repeat 0 0 7 1", "undo", "put -1 -1", "take 2 1", "undo"):
                word, *numbers = line.split(" ")
                values = tuple([int(number) for number in numbers])
                pairs = tuple(zip(values[::2], values[1::2]))
                try:
                    getattr(desk, word)(*{"undo": (), "repeat": (pairs,)}.get(word, pairs))
                    answer = "ok"
                except (ValueError, ArithmeticError) as error:
                    answer = error.__class__.__name__
                self.assertEqual(talk.say(line), answer)
                self.assertEqual(talk.say("show"), str(desk.shape).replace("\n", "/"))
                told = ", ".join([" ".join(map(str, lattice)) for lattice in desk.lattices]) or "none"
                self.assertEqual(talk.say("lattices"), told)
                self.assertEqual(desk.lattices, lattices.lattices(desk.shape))
                self.assertEqual(talk.say("walk"), walk(desk.shape) if desk.shape.is_whole else "NotWhole")

    def test_all_whole_shapes(self):
        for many in (4, 5):
            book = Book()
            for shape in whole_shapes(many):
                self.assertIs(accepts(*certify_shape(shape)), True)
                self.assertEqual(certify_shape(shape)[0][0], "fills" if shape in fillers(many) else "stuck")
                book["it"] = shape
                self.assertIsNone(book.wish(("fills" if shape not in stuck_shapes(many) else "stuck", "it")))
                book.lift(0)


class TestInterface(Case):
    def test_names_and_arguments(self):
        for module, told in INTERFACE.items():
            for text in told:
                name = text.split("(")[0]
                found = getattr(module, name)
                self.assertEqual(found.__module__, module.__name__)
                self.assertEqual(name + str(inspect.signature(found)), text)

    def test_methods_and_properties(self):
        for kind, told in METHODS.items():
            for text in told:
                name = text.split("(")[0]
                self.assertEqual(name + str(inspect.signature(vars(kind)[name])), text)
        for kind, names in PROPERTIES.items():
            for name in names:
                self.assertIsInstance(vars(kind)[name], property)
        self.assertIsInstance(vars(shapes.Shape)["read"], staticmethod)
        for name in ("__len__", "__contains__", "__getitem__", "__setitem__"):
            self.assertIn(name, vars(Book))

    def test_error_classes_are_of_one_base_each(self):
        bases = (errors.WrongValue, errors.WrongName, errors.NoAnswer)
        kinds = [kind for kind in vars(errors).values() if isinstance(kind, type) and kind not in bases]
        for kind in kinds:
            self.assertEqual(len([base for base in bases if issubclass(kind, base)]), 1)
