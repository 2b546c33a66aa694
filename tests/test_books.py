import itertools
import random

from shovefloors import books as module
from shovefloors.books import Book
from shovefloors.errors import (Broken, InUse, InvalidDeeds, InvalidIndex, InvalidName, InvalidWish, NotAShape,
                                NothingToUndo, UnknownName)
from shovefloors.lattices import lattices
from shovefloors.places import least_hues
from shovefloors.shapes import Shape
from tests.support import NO_LATTICES, NO_SHAPES, Case, Plain
from tests.trial_cases import Stop, TrialCases

ANGLE, BAR, CROSS = Shape.read("#.\n##"), Shape(((4, 7), (5, 7), (6, 7))), Shape.read(".#.\n###\n.#.")
TEE, BOWL, GAP = Shape.read("###\n.#."), Shape.read("#.#\n###"), Shape.read("#.#")
ONE, SPLIT = Shape(((0, 0),)), Shape.read("#..#")
# Its copies need 25 hues.
COMB = Shape(tuple([(x, y) for y, x in enumerate([-1000, 848, -920, 828] + [108] * 20)]))
SHAPES = [ANGLE, BAR, CROSS, TEE, BOWL, GAP, ONE, SPLIT, Shape.read("##\n##"), Shape.read("##")]
NAMES = ["a", "b", "main", "zzzzzzzz"]
LATTICES = [(3, 2, 1), (3, 0, 1), (1, 0, 1), (5, 2, 1), (4, 2, 1), (2, 0, 1), (2, 0, 2), (100, 99, 100)]
WRONG = Plain()

NO_NAMES = ["", "aaaaaaaaa", "abcdefghi", "A", "aB", "a1", "a_b", "a b", " ", " a", "a ", "a\n", "\n", "-", "`", "{", "a.b",
            "\u00e4", "\u0430", "a\x00", "main!", None, True, False, 0, 5, b"a", (), ("a",), ["a"], {"a": 1}, {"a"}, Plain(),
            ANGLE, Shape, len, range(1)]


def holds(wish, shapes):
    """Whether a wish holds for some shapes by their names, as the document tells it."""
    if not isinstance(wish[1], str) or wish[1] not in shapes:
        return False
    shape = shapes[wish[1]]
    found = lattices(shape)
    return {"fills": lambda: found != (), "stuck": lambda: found == (), "by": lambda: wish[2] in found,
            "whole": lambda: shape.is_whole, "many": lambda: len(found) >= wish[2],
            "hues": lambda: wish[2] in found and least_hues(shape, wish[2]) <= wish[3]}[wish[0]]()


class Record:
    """What a book should hold: shapes by their names and wishes, the last ones being those of now."""

    def __init__(self):
        self.rows = [({}, [])]

    def error_of(self, deed):
        """The error that a deed should raise, None if it should be done."""
        shapes, wishes = self.rows[-1]
        word, value = deed[0], deed[-1]
        if word == "put":
            held = [holds(wish, {**shapes, deed[1]: deed[2]}) for wish in wishes]
            return None if all(held) else Broken(held.index(False))
        if word == "drop":
            if value not in shapes:
                return UnknownName(value)
            naming = [index for index, wish in enumerate(wishes) if wish[1] == value]
            return InUse(naming[0]) if naming else None
        if word == "wish":
            return None if holds(value, shapes) else Broken(len(wishes))
        if word == "lift":
            return None if 0 <= value < len(wishes) else InvalidIndex(value)
        return None if len(self.rows) > 1 else NothingToUndo()

    def do(self, deed):
        shapes, wishes = self.rows[-1]
        if deed[0] == "put":
            self.rows.append(({**shapes, deed[1]: deed[2]}, wishes))
        elif deed[0] == "drop":
            self.rows.append(({name: shape for name, shape in shapes.items() if name != deed[1]}, wishes))
        elif deed[0] == "wish":
            self.rows.append((shapes, wishes + [deed[1]]))
        elif deed[0] == "lift":
            self.rows.append((shapes, wishes[:deed[1]] + wishes[deed[1] + 1:]))
        else:
            self.rows.pop()


def any_wish(generator):
    """A wish that may hold or not."""
    name, lattice = generator.choice(NAMES + ["other"]), generator.choice(LATTICES)
    number = generator.choice([0, 1, 1, 2, 3, 100])
    return generator.choice([("fills", name), ("stuck", name), ("by", name, lattice), ("whole", name),
                             ("many", name, number), ("hues", name, lattice, number)])


def any_deed(generator, wishes):
    """A deed that may be right or wrong."""
    word = generator.choice(["put"] * 4 + ["drop"] + ["wish"] * 4 + ["lift"])
    if word == "put":
        return word, generator.choice(NAMES), generator.choice(SHAPES)
    if word == "drop":
        return word, generator.choice(NAMES + ["other"])
    if word == "wish":
        return word, any_wish(generator)
    return word, generator.randrange(-1, wishes + 1)


def do(book, deed):
    """Does a deed by the book's own methods."""
    if deed[0] == "put":
        book[deed[1]] = deed[2]
        return None
    return getattr(book, deed[0])(*deed[1:])


def told(book):
    """All that a book is."""
    return (book.names, [book[name] for name in book.names], book.wishes, book.changes)


def book_of(*deeds):
    book = Book()
    book.do_all(*deeds)
    return book


def with_angle():
    return book_of(("put", "angle", ANGLE), ("put", "bar", BAR), ("wish", ("whole", "bar")),
                   ("wish", ("by", "angle", (3, 2, 1))), ("wish", ("many", "bar", 3)))


class BookCase(Case):
    def assert_told(self, book, record):
        shapes, wishes = record.rows[-1]
        self.assertEqual(book.names, tuple(sorted(shapes)))
        self.assertEqual({name: book[name] for name in book.names}, shapes)
        self.assert_same(book.wishes, tuple(wishes))
        self.assert_same(book.changes, len(record.rows) - 1)
        self.assertEqual(len(book), len(shapes))
        self.assertIs(bool(book), len(shapes) > 0)
        for name in NAMES + ["other", "", "mai"]:
            self.assertIs(name in book, name in shapes)

    def assert_raises(self, error, call, *args):
        with self.assertRaises(error.__class__) as caught:
            call(*args)
        self.assertIs(caught.exception.__class__, error.__class__)
        self.assertEqual(vars(caught.exception), vars(error))


class TestChanges(BookCase):
    def test_long_drawn_rows(self):
        failed = {}
        for seed in range(10):
            generator = random.Random(seed)
            book, record = Book(), Record()
            for _ in range(400):
                deed = any_deed(generator, len(record.rows[-1][1]))
                if generator.random() < 0.2:
                    deed = ("undo",)
                error = record.error_of(deed)
                if error is None:
                    self.assertIsNone(do(book, deed))
                    record.do(deed)
                else:
                    self.assert_raises(error, do, book, deed)
                    failed[error.__class__] = failed.get(error.__class__, 0) + 1
                self.assert_told(book, record)
        for error in (Broken, InUse, UnknownName, InvalidIndex, NothingToUndo):
            self.assertGreater(failed[error], 5, error)

    def test_all_wishes_hold_behind_each_change(self):
        generator = random.Random(77)
        book = Book()
        for _ in range(600):
            try:
                do(book, any_deed(generator, len(book.wishes)))
            except (ArithmeticError, LookupError, ValueError):
                pass
            for wish in book.wishes:
                self.assertTrue(holds(wish, {name: book[name] for name in book.names}), wish)
        self.assertGreater(len(book.wishes), 5)

    def test_broken_with_the_first_wish_that_would_not_hold(self):
        book = book_of(("put", "a", CROSS), ("put", "b", BAR), ("wish", ("whole", "a")), ("wish", ("fills", "b")),
                       ("wish", ("many", "a", 2)), ("wish", ("fills", "a")))
        self.assert_index(Broken, 0, do, book, ("put", "a", GAP))
        self.assert_index(Broken, 2, do, book, ("put", "a", BOWL))
        self.assert_index(Broken, 2, do, book, ("put", "a", TEE))
        self.assert_index(Broken, 1, do, book, ("put", "b", GAP))
        do(book, ("put", "a", BAR))
        book.lift(0)
        self.assert_index(Broken, 1, do, book, ("put", "a", GAP))
        self.assert_index(Broken, 3, book.wish, ("stuck", "a"))
        self.assertEqual(book["a"], BAR)

    def test_wishes_about_what_is_not_there_do_not_hold(self):
        book = book_of(("put", "a", BAR), ("wish", ("fills", "a")))
        for name in ["b", "A", "", "aa"] + NO_NAMES:
            for wish in (("fills", name), ("stuck", name), ("by", name, (3, 0, 1)), ("whole", name),
                         ("many", name, 0), ("hues", name, (3, 0, 1), 100)):
                self.assert_index(Broken, 1, book.wish, wish)
        self.assertEqual(told(book), told(book_of(("put", "a", BAR), ("wish", ("fills", "a")))))

    def test_in_use_with_the_first_wish_that_names_it(self):
        book = with_angle()
        self.assert_index(InUse, 0, book.drop, "bar")
        self.assert_index(InUse, 1, book.drop, "angle")
        book.lift(0)
        self.assert_index(InUse, 1, book.drop, "bar")
        book.lift(0)
        self.assertIsNone(book.drop("angle"))
        self.assert_index(InUse, 0, book.drop, "bar")
        book.lift(0)
        book.drop("bar")
        self.assertEqual((book.names, book.wishes, book.changes), ((), (), 10))

    def test_back_to_a_book_without_anything_and_anew(self):
        deeds = [("put", "a", BAR), ("wish", ("fills", "a")), ("put", "a", ANGLE), ("put", "b", GAP), ("lift", 0),
                 ("drop", "a"), ("wish", ("stuck", "b")), ("put", "b", BOWL)]
        book = Book()
        for _ in range(3):
            before = []
            for deed in deeds:
                before.append(told(book))
                do(book, deed)
            self.assertEqual(book.changes, 8)
            for wanted in reversed(before):
                self.assertIsNone(book.undo())
                self.assertEqual(told(book), wanted)
            self.assertEqual(told(book), ((), [], (), 0))
            self.assert_bare(NothingToUndo, book.undo)
            self.assert_bare(NothingToUndo, book.undo)

    def test_changes_that_leave_all_as_it_was_count(self):
        book = book_of(("put", "a", BAR))
        for many in (2, 3):
            do(book, ("put", "a", BAR))
            self.assertEqual(book.changes, many)
        do(book, ("put", "a", Shape(BAR.cells)))
        book.wish(("fills", "a"))
        book.wish(("fills", "a"))
        self.assertEqual((book.wishes, book.changes), ((("fills", "a"), ("fills", "a")), 6))
        book.lift(0)
        book.undo()
        book.undo()
        self.assertEqual((book.wishes, book.changes), ((("fills", "a"),), 5))

    def test_lift_takes_just_this_one(self):
        wishes = [("many", "a", number) for number in range(4)]
        for index in range(4):
            book = book_of(("put", "a", BAR), *[("wish", wish) for wish in wishes[:-1]], ("wish", ("whole", "a")))
            self.assertIsNone(book.lift(index))
            left = wishes[:-1] + [("whole", "a")]
            del left[index]
            self.assertEqual(book.wishes, tuple(left))

    def test_wishes_are_told_as_they_were_passed(self):
        wishes = [("by", "a", (3, 0, 1)), ("hues", "a", (3, 1, 1), 100), ("fills", "a")]
        book = book_of(("put", "a", BAR), *[("wish", wish) for wish in wishes])
        for found, wish in zip(book.wishes, wishes):
            self.assertIs(found, wish)
        self.assertIs(book["a"], BAR)

    def test_each_word(self):
        right = [(BAR, ("fills", "a")), (BOWL, ("stuck", "a")), (GAP, ("stuck", "a")), (SPLIT, ("fills", "a")),
                 (BAR, ("by", "a", (3, 1, 1))), (ANGLE, ("by", "a", (3, 2, 1))), (BOWL, ("whole", "a")),
                 (BAR, ("many", "a", 3)), (BOWL, ("many", "a", 0)), (BAR, ("many", "a", 0)),
                 (BAR, ("hues", "a", (3, 0, 1), 2)), (BAR, ("hues", "a", (3, 1, 1), 3)),
                 (BAR, ("hues", "a", (3, 1, 1), 100)), (COMB, ("hues", "a", (1, 0, 24), 25))]
        wrong = [(BOWL, ("fills", "a")), (GAP, ("fills", "a")), (BAR, ("stuck", "a")), (ANGLE, ("by", "a", (3, 1, 1))),
                 (ANGLE, ("by", "a", (100, 0, 100))), (GAP, ("whole", "a")), (SPLIT, ("whole", "a")),
                 (BAR, ("many", "a", 4)), (BAR, ("many", "a", 100)), (BOWL, ("many", "a", 1)),
                 (BAR, ("hues", "a", (3, 0, 1), 1)), (BAR, ("hues", "a", (3, 0, 1), 0)),
                 (BAR, ("hues", "a", (3, 1, 1), 2)), (ANGLE, ("hues", "a", (3, 1, 1), 100)),
                 (COMB, ("hues", "a", (1, 0, 24), 24)), (BOWL, ("hues", "a", (5, 2, 1), 100))]
        for shape, wish in right:
            book = book_of(("put", "a", shape))
            self.assertIsNone(book.wish(wish))
            self.assertEqual(book.wishes, (wish,))
        for shape, wish in wrong:
            book = book_of(("put", "a", shape))
            self.assert_index(Broken, 0, book.wish, wish)
            self.assertEqual((book.wishes, book.changes), ((), 1))


RIGHT_WISHES = [("fills", "a"), ("stuck", "a"), ("by", "a", (3, 0, 1)), ("by", "a", (100, 99, 100)), ("whole", "a"),
                ("many", "a", 0), ("many", "a", 100), ("hues", "a", (3, 0, 1), 0), ("hues", "a", (100, 0, 1), 100)]
NO_WISHES = [
    None, True, False, 0, 5, "", "fills", "fills a", b"fills", (), [], {}, {"fills": "a"}, {"fills"}, Plain(), ANGLE,
    Shape, len, range(2), ("fills",), ("many",), ("",), ("a",), ("fills", "a", "b"), ("stuck", "a", (3, 0, 1)),
    ("whole", "a", 1), ("whole", "a", ()), ("by", "a"), ("by", "a", (3, 0, 1), 2), ("many", "a"), ("many", "a", 1, 1),
    ("hues", "a"), ("hues", "a", (3, 0, 1)), ("hues", "a", 3), ("hues", "a", 3, (3, 0, 1)),
    ("hues", "a", (3, 0, 1), 3, 3), ("fill", "a"), ("Fills", "a"), ("FILLS", "a"), ("fills ", "a"), ("other", "a"),
    ("other", "a", (3, 0, 1)), ("other", "a", 3), ("other", "a", (3, 0, 1), 3), ("Hues", "a", (3, 0, 1), 3),
    ("", "a"), (None, "a"), (0, "a"), (True, "a"), (b"fills", "a"), (("fills",), "a"), (["fills"], "a"), ({}, "a"),
    (Plain(), "a"), (Plain(), Plain()), ["fills", "a"], (("fills", "a"),), [("fills", "a")], ("put", "a", ANGLE),
    ("a", "fills"), ("turned", "a", (3, 0, 2, 2, 1))]


class TestWishForms(BookCase):
    def assert_form(self, book, wish, right):
        if right:
            with self.assertRaises(Broken):
                book.wish(wish)
        else:
            self.assert_given(InvalidWish, wish, book.wish, wish)

    def test_right_forms(self):
        book = Book()
        for wish in RIGHT_WISHES:
            for name in ["a", "b", "", None, 0, True, [], {}, {1}, b"", Plain(), ANGLE, ("a",), ((((1,),),),), Shape]:
                self.assert_form(book, (wish[0], name) + wish[2:], True)

    def test_no_forms(self):
        for book in (Book(), book_of(("put", "a", BAR))):
            for wish in NO_WISHES:
                self.assert_form(book, wish, False)
        for wish in RIGHT_WISHES:
            self.assert_form(book, list(wish), False)
            self.assert_form(book, wish + ("a",), False)
            self.assert_form(book, wish + (None,), False)
            self.assert_form(book, wish[:1], False)
            self.assert_form(book, wish[1:], False)
            self.assert_form(book, (wish,), False)

    def test_lattices(self):
        book = book_of(("put", "a", BAR))
        for lattice in ((100, 99, 100), (100, 0, 1), (1, 0, 100), (1, 0, 1)):
            self.assert_form(book, ("by", "a", lattice), True)
            self.assert_form(book, ("hues", "a", lattice, 9), True)
        for wrong in NO_LATTICES:
            self.assert_form(book, ("by", "a", wrong), False)
            self.assert_form(book, ("hues", "a", wrong, 9), False)

    def test_numbers(self):
        book = book_of(("put", "a", BOWL))
        for number in (1, 2, 50, 99, 100):
            self.assert_form(book, ("many", "a", number), True)
        for number in (0, 1, 50, 99, 100):
            self.assert_form(book, ("hues", "a", (5, 0, 1), number), True)
        for wrong in [-1, 101, -100, 10 ** 79, -10 ** 79, True, False, None, "1", "", b"1", (), (1,), [1], {}, {1},
                      Plain(), ANGLE]:
            self.assert_form(book, ("many", "a", wrong), False)
            self.assert_form(book, ("hues", "a", (5, 0, 1), wrong), False)

    def test_a_form_that_is_wrong_is_told_ahead_of_a_name_that_is_not_there(self):
        book = Book()
        wish = ("many", "nowhere", 101)
        self.assert_given(InvalidWish, wish, book.wish, wish)


class TestErrors(BookCase):
    def test_names(self):
        book = Book()
        for wrong in NO_NAMES:
            self.assert_given(InvalidName, wrong, book.__setitem__, wrong, ANGLE)
            self.assert_given(InvalidName, wrong, book.__setitem__, wrong, None)
        self.assertEqual(told(book), ((), [], (), 0))
        for name in ("a", "z", "abcdefgh", "zzzzzzzz", "put", "aa"):
            book[name] = ANGLE
        self.assertEqual(book.names, ("a", "aa", "abcdefgh", "put", "z", "zzzzzzzz"))
        with self.assertRaises(InvalidName) as caught:
            book["No"] = ANGLE
        self.assertEqual(caught.exception.given, "No")

    def test_no_shapes_ahead_of_broken(self):
        book = book_of(("put", "a", BAR), ("wish", ("fills", "a")))
        for wrong in NO_SHAPES:
            for name in ("a", "b"):
                self.assert_given(NotAShape, wrong, book.__setitem__, name, wrong)
        self.assertEqual((book.names, book.changes), (("a",), 2))

    def test_unknown_names(self):
        book = with_angle()
        before = told(book)
        for wrong in ["b", "ang", "anglee", "Angle", "bar "] + NO_NAMES:
            self.assert_given(UnknownName, wrong, book.__getitem__, wrong)
            self.assert_given(UnknownName, wrong, book.drop, wrong)
            self.assert_given(UnknownName, wrong, book.drop, name=wrong)
            self.assertIs(wrong in book, False)
            self.assertIs(wrong not in book, True)
        self.assertEqual(told(book), before)
        with self.assertRaises(UnknownName):
            book["b"]

    def test_indexes(self):
        book = with_angle()
        before = told(book)
        for wrong in [-1, -3, 3, 4, 10 ** 79, -10 ** 79, True, False, None, "0", "", b"0", (), (0,), [0], {}, {0},
                      Plain(), ANGLE, range(1)]:
            self.assert_given(InvalidIndex, wrong, book.lift, wrong)
            self.assert_given(InvalidIndex, wrong, book.lift, index=wrong)
        self.assertEqual(told(book), before)
        zero = 0
        self.assert_given(InvalidIndex, zero, Book().lift, zero)

    def test_a_call_that_raises_leaves_the_book_as_it_was(self):
        book = with_angle()
        before = told(book)
        for deed in (("put", "bar", ANGLE), ("put", "angle", BOWL), ("put", "", BAR), ("put", "bar", None),
                     ("drop", "bar"), ("drop", "cross"), ("wish", None), ("wish", ("stuck", "bar")), ("lift", 3)):
            with self.assertRaises((ValueError, LookupError, ArithmeticError)):
                do(book, deed)
            self.assertEqual(told(book), before)


class TestLooking(BookCase):
    def test_length_truth_and_names(self):
        book = Book()
        self.assertIs(bool(book), False)
        self.assert_same((len(book), book.names, book.wishes, book.changes), (0, (), (), 0))
        for many, name in enumerate(("b", "ab", "a", "c", "abc"), 1):
            book[name] = ANGLE
            self.assertIs(bool(book), True)
            self.assert_same(len(book), many)
        self.assert_same(book.names, ("a", "ab", "abc", "b", "c"))
        self.assertIs("ab" in book, True)
        for name in ("a", "ab", "abc", "b", "c"):
            book.drop(name)
        self.assertIs(bool(book), False)

    def test_a_shape_in_the_place_of_another_one(self):
        book = Book()
        for shape in SHAPES:
            book["a"] = shape
            self.assertIs(book["a"], shape)
        self.assertEqual((len(book), book.changes), (1, len(SHAPES)))
        book.undo()
        self.assertIs(book["a"], SHAPES[-2])


class TestDoAll(BookCase):
    def test_each_deed_can_be_taken_back_by_itself(self):
        book = Book()
        deeds = [("put", "a", BAR), ("wish", ("fills", "a")), ("put", "b", GAP), ("lift", 0), ("drop", "a")]
        self.assert_same(book.do_all(*deeds), 5)
        other, before = Book(), []
        for deed in deeds:
            before.append(told(other))
            do(other, deed)
        self.assertEqual(told(book), told(other))
        for wanted in reversed(before):
            book.undo()
            self.assertEqual(told(book), wanted)

    def test_no_deeds(self):
        book = Book()
        self.assert_same(book.do_all(), 0)
        self.assert_same(book.do_all(watch=None), 0)
        self.assert_same(book.do_all(watch=lambda held: 1 // 0), 0)
        self.assertEqual(book.changes, 0)

    def test_no_deeds_by_their_form(self):
        wrong_deeds = [
            None, True, 0, "", "put", b"put", (), [], {}, {"put"}, Plain(), ANGLE, Shape, ("put",), ("put", "a"),
            ("put", "a", ANGLE, 1), ("drop",), ("drop", "a", "b"), ("wish",), ("wish", "fills", "a"), ("lift",),
            ("lift", 0, 1), ["drop", "a"], ["put", "a", ANGLE], ("other", "a"), ("other",), ("",), ("Put", "a", ANGLE), ("undo",),
            ("undo", 1), ("do_all", ()), (None, "a"), (0, "a"), (True, "a"), (["drop"], "a"), ({}, "a"), (Plain(), "a"),
            (("drop", "a"),), ("drop" "a",), (b"drop", "a"), ("", "a"), ("fills", "a")]
        book = with_angle()
        before = told(book)
        for wrong in wrong_deeds:
            seen = []
            for at in (0, 1, 4):
                deeds = [("put", "x", BAR)] * at + [wrong, ("lift", 99), None]
                self.assert_index(InvalidDeeds, at, book.do_all, *deeds, watch=seen.append)
            # Told ahead of the deed that would fail.
            self.assert_index(InvalidDeeds, 1, book.do_all, ("drop", "nowhere"), wrong, watch=seen.append)
            self.assertEqual(seen, [])
            self.assertEqual(told(book), before)

    def test_what_stands_in_a_deed_is_looked_at_when_it_is_done(self):
        book = with_angle()
        before = told(book)
        name, index = "No", 9
        fails = [(InvalidName, {"given": name}, ("put", name, None)), (NotAShape, {"given": None}, ("put", "a", None)),
                 (Broken, {"index": 0}, ("put", "bar", GAP)), (UnknownName, {"given": WRONG}, ("drop", WRONG)),
                 (InUse, {"index": 1}, ("drop", "angle")), (InvalidWish, {"given": WRONG}, ("wish", WRONG)),
                 (Broken, {"index": 4}, ("wish", ("stuck", "a"))), (InvalidIndex, {"given": index}, ("lift", index))]
        for error, attributes, deed in fails:
            for more in ((), (("lift", 77),), (("drop", "nowhere"), ("put", "", 1))):
                right = (("put", "a", BAR), ("wish", ("fills", "a")))
                with self.assertRaises(error) as caught:
                    book.do_all(*right, deed, *more)
                self.assertIs(caught.exception.__class__, error)
                self.assertEqual(vars(caught.exception), attributes)
                self.assertEqual(told(book), before)

    def test_a_deed_may_need_one_ahead_of_it(self):
        book = Book()
        self.assertEqual(book.do_all(("put", "a", BAR), ("drop", "a"), ("put", "a", GAP), ("wish", ("stuck", "a")),
                                     ("lift", 0), ("drop", "a")), 6)
        self.assertEqual(told(book), ((), [], (), 6))

    def test_watch_is_called_right_behind_each_deed(self):
        book, seen = Book(), []

        def watch(held):
            self.assertIs(held, book)
            seen.append(told(held))
        deeds = [("put", "a", BAR), ("wish", ("fills", "a")), ("put", "b", GAP), ("drop", "b")]
        self.assertEqual(book.do_all(*deeds, watch=watch), 4)
        other, wanted = Book(), []
        for deed in deeds:
            do(other, deed)
            wanted.append(told(other))
        self.assertEqual(seen, wanted)
        del seen[:]
        self.assert_index(Broken, 0, book.do_all, ("put", "b", ONE), ("put", "a", GAP), ("lift", 0), watch=watch)
        self.assertEqual([names for names, _, _, _ in seen], [("a", "b")])
        self.assertEqual(told(book), wanted[-1])

    def test_an_error_of_watch_comes_out(self):
        book = with_angle()
        before = told(book)
        for error in (Stop("x"), KeyError("x"), KeyboardInterrupt(), Broken(7), StopIteration()):
            for after in (1, 2, 3):
                seen = []

                def watch(held):
                    seen.append(held.changes)
                    if len(seen) == after:
                        raise error
                with self.assertRaises(error.__class__) as caught:
                    book.do_all(("put", "a", BAR), ("put", "b", GAP), ("lift", 0), watch=watch)
                self.assertIs(caught.exception, error)
                self.assertEqual(len(seen), after)
                self.assertEqual(told(book), before)

    def test_watch_may_try_something(self):
        book, seen = Book(), []

        def watch(held):
            with held.trial():
                held["x"] = ONE
                seen.append(held.names)
        book.do_all(("put", "a", BAR), ("put", "b", GAP), watch=watch)
        self.assertEqual(seen, [("a", "x"), ("a", "b", "x")])
        self.assertEqual((book.names, book.changes), (("a", "b"), 2))

    def test_long_drawn_rows(self):
        for seed in range(6):
            generator = random.Random(seed)
            book, record, done = Book(), Record(), 0
            for _ in range(150):
                deeds, error = [], None
                before = len(record.rows)
                for _ in range(generator.randrange(4)):
                    deeds.append(any_deed(generator, len(record.rows[-1][1])))
                    error = error or record.error_of(deeds[-1])
                    if error is None:
                        record.do(deeds[-1])
                if error is None:
                    self.assertEqual(book.do_all(*deeds), len(deeds))
                    done += len(deeds) > 1
                else:
                    self.assert_raises(error, book.do_all, *deeds)
                    del record.rows[before:]
                self.assert_told(book, record)
            self.assertGreater(done, 5)


class TestTrials(TrialCases, BookCase):
    own_error = InvalidName

    def made(self):
        return Book()

    def made_again(self):
        book = Book()
        for _ in range(3):
            self.change(book)
        return book

    def change(self, book):
        if len(book.names) > len(book.wishes):
            book.wish(("fills", book.names[-1]))
        else:
            book["a" * (len(book.names) + 1)] = BAR

    def told(self, book):
        return told(book)

    def fail_at(self, book):
        book[""] = BAR

    def all_taken_back(self, book):
        found = []
        while book.changes:
            found.append(told(book))
            book.undo()
        return found + [told(book)]

    def test_wishes_and_deeds_within_a_trial(self):
        with self.owner.trial() as held:
            held.lift(0)
            held.drop("a")
            self.assertEqual(held.do_all(("put", "a", GAP), ("wish", ("stuck", "a"))), 2)
            self.assert_index(Broken, 0, held.do_all, ("drop", "aa"), ("put", "a", BAR))
        self.assert_as_before()


class TestSeveral(BookCase):
    def test_two_books_side_by_side(self):
        first, second = Book(), Book()
        first["a"] = BAR
        self.assertEqual(told(second), ((), [], (), 0))
        second["a"] = GAP
        first.wish(("fills", "a"))
        second.wish(("stuck", "a"))
        with first.trial(), second.trial():
            first.undo()
            second.lift(0)
            second.drop("a")
        self.assertEqual((told(first), told(second)),
                         ((("a",), [BAR], (("fills", "a"),), 2), (("a",), [GAP], (("stuck", "a"),), 2)))
        first.undo()
        self.assertEqual(second.wishes, (("stuck", "a"),))

    def test_what_was_handed_out_stays(self):
        book = with_angle()
        names, wishes, shape, changes = book.names, book.wishes, book["angle"], book.changes
        book.do_all(("lift", 1), ("drop", "angle"), ("put", "x", GAP), ("wish", ("stuck", "x")))
        self.assertEqual((names, changes, shape), (("angle", "bar"), 5, ANGLE))
        self.assertEqual(wishes, (("whole", "bar"), ("by", "angle", (3, 2, 1)), ("many", "bar", 3)))

    def test_a_book_equals_itself_alone(self):
        self.assert_alone([with_angle(), with_angle(), book_of(("put", "a", BAR)), with_angle().trial()])
        empty = Book()
        for other in (Book(), None, 0, (), {}, Plain(), False):
            self.assertIs(empty == other, False)
            self.assertIs(empty != other, True)
        self.assertIs(empty == empty, True)


class TestInterface(BookCase):
    def test_defined_here(self):
        self.assertEqual(Book.__module__, module.__name__)
        for name in ("__getitem__", "__setitem__", "__contains__", "__len__", "names", "wishes", "drop", "wish", "lift",
                     "undo", "changes", "do_all", "trial", "tried"):
            self.assertIn(name, vars(Book))

    def test_by_name(self):
        book = with_angle()
        self.assertIsNone(book.wish(wish=("fills", "bar")))
        self.assertIsNone(book.lift(index=1))
        self.assertIsNone(book.drop(name="angle"))
        self.assertEqual(book.do_all(("put", "a", ONE), watch=None), 1)
        self.assertEqual(book.tried(action=lambda held: held.changes), 9)

    def test_properties_are_not_assigned(self):
        book = Book()
        for name in ("names", "wishes", "changes"):
            with self.assertRaises(AttributeError):
                setattr(book, name, ())

    def test_equal_calls(self):
        for deeds in itertools.permutations((("put", "a", BAR), ("put", "b", GAP), ("put", "c", ONE))):
            self.assertEqual(told(book_of(*deeds)), told(book_of(*deeds[::-1])))

    def test_examples(self):
        book = Book()
        self.assert_same(
            [book.do_all(("put", "main", CROSS), ("wish", ("fills", "main")), ("wish", ("many", "main", 2))),
             book.names, book.changes],
            [3, ("main",), 3])
        self.assert_index(Broken, 1, book.do_all, ("put", "main", TEE))
