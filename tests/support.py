"""What several tests need."""

import unittest

from shovefloors.shapes import Shape


class Plain:
    """A value of a class that the package does not know."""

    def __eq__(self, other):
        return True


NO_TUPLES = [None, True, False, 0, 7, "", "ab", b"ab", [], [(0, 0)], {}, {(0, 0): 1}, {(0, 0)}, frozenset(), range(2),
             Plain(), Shape(((0, 0),)), Shape, len]

NO_PAIRS = [None, True, 0, 5, "", "ab", b"ab", [], [0, 0], (), (0,), (0, 0, 0), (0, "0"), ("0", 0), (None, 0),
            (0, None), (True, 0), (0, False), (False, True), ((0, 0),), ((0, 0), (0, 0)), ([0], 0), (0, [0]),
            {0: 0, 1: 1}, {0, 1},
            range(2), Plain(), Shape(((0, 0),)), (Plain(), 0), (0, b"a"), ((((1,),),), 0)]


class Case(unittest.TestCase):
    """A test that asks for an error with just this class and attribute."""

    def assert_given(self, error, given, call, *args, **named):
        with self.assertRaises(error) as caught:
            call(*args, **named)
        self.assertIs(caught.exception.__class__, error)
        self.assertIs(caught.exception.given, given)

    def assert_number(self, error, number, call, *args, **named):
        with self.assertRaises(error) as caught:
            call(*args, **named)
        self.assertIs(caught.exception.__class__, error)
        self.assertIs(caught.exception.given.__class__, int)
        self.assertEqual(caught.exception.given, number)

    def assert_index(self, error, index, call, *args, **named):
        with self.assertRaises(error) as caught:
            call(*args, **named)
        self.assertIs(caught.exception.__class__, error)
        self.assertIs(caught.exception.index.__class__, index.__class__)
        self.assertEqual(caught.exception.index, index)
