import unittest

from shovefloors import errors
from tests.support import Plain

BASES = {"WrongValue": ValueError, "WrongName": LookupError, "NoAnswer": ArithmeticError}

KINDS = {
    "WrongValue": {
        "InvalidText": "given", "InvalidName": "given", "InvalidNumber": "given", "InvalidWish": "given",
        "InvalidIndex": "given", "InvalidLine": "given", "InvalidCell": "given", "InvalidLattice": "given",
        "InvalidCut": "given", "NotAShape": "given", "InvalidCells": "index", "InvalidShoves": "index",
        "InvalidShapes": "index", "InvalidDeeds": "index"},
    "WrongName": {"UnknownName": "given"},
    "NoAnswer": {
        "NotWhole": None, "NotFilled": None, "TooGreat": "given", "Broken": "index", "InUse": "index",
        "NothingToUndo": None},
}

ALL = [(base, name, attribute) for base, kinds in KINDS.items() for name, attribute in kinds.items()]

VALUES = [None, True, False, 0, -1, -10 ** 79, 10 ** 79, "", "text", "given", b"bytes", (), (1, (2, "x")), [], [1, [2]],
          {}, {"given": 1}, {1, 2}, Plain(), Plain, len, ValueError("x")]


class TestErrors(unittest.TestCase):
    def test_bases(self):
        for name, own in BASES.items():
            with self.subTest(name=name):
                base = getattr(errors, name)
                self.assertEqual(base.__mro__, (base, own, Exception, BaseException, object))

    def test_each_stands_under_its_base_alone(self):
        for base_name, name, _ in ALL:
            with self.subTest(name=name):
                kind, base = getattr(errors, name), getattr(errors, base_name)
                rest = (BASES[base_name], Exception, BaseException, object)
                self.assertEqual(kind.__mro__, (kind, base) + rest)

    def test_there_are_no_others(self):
        found = {name for name, value in vars(errors).items() if isinstance(value, type)}
        self.assertEqual(found, set(BASES) | {name for _, name, _ in ALL})

    def test_attributes_are_kept_whatever_they_are(self):
        for _, name, attribute in ALL:
            for value in VALUES if attribute else []:
                with self.subTest(name=name, value=value):
                    kind = getattr(errors, name)
                    for error in (kind(value), kind(**{attribute: value})):
                        self.assertIs(getattr(error, attribute), value)
                        self.assertEqual(list(vars(error)), [attribute])

    def test_attributes_are_needed(self):
        for _, name, attribute in ALL:
            with self.subTest(name=name):
                kind = getattr(errors, name)
                if attribute:
                    self.assertRaises(TypeError, kind)
                    self.assertRaises(TypeError, kind, 1, 2)
                    self.assertRaises(TypeError, kind, other=1)

    def test_those_without_attributes_take_none(self):
        for name in list(BASES) + [name for _, name, attribute in ALL if not attribute]:
            with self.subTest(name=name):
                kind = getattr(errors, name)
                self.assertEqual(vars(kind()), {})
                self.assertRaises(TypeError, kind, 1)
                self.assertRaises(TypeError, kind, given=1)
                self.assertRaises(TypeError, kind, index=1)

    def test_they_can_be_raised_and_caught_by_their_bases(self):
        for base_name, name, attribute in ALL:
            with self.subTest(name=name):
                kind = getattr(errors, name)
                for caught in (kind, getattr(errors, base_name), BASES[base_name]):
                    with self.assertRaises(caught):
                        raise kind(3) if attribute else kind()

    def test_messages_can_be_read(self):
        for _, name, attribute in ALL:
            for value in VALUES + [10 ** 5000]:
                kind = getattr(errors, name)
                self.assertIsInstance(str(kind(value) if attribute else kind()), str)
