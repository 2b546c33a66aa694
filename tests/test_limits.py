import unittest

from shovefloors import limits

VALUES = {"MOST_CELLS": 24, "MOST_PLACE": 1000, "MOST_LATTICE": 100, "MOST_ROLLED": 36, "MOST_SHAPES": 20,
          "MOST_SHOVES": 24}


class TestLimits(unittest.TestCase):
    def test_values(self):
        for name, value in VALUES.items():
            with self.subTest(name=name):
                self.assertIs(getattr(limits, name).__class__, int)
                self.assertEqual(getattr(limits, name), value)
