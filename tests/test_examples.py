"""The examples of the document, in its order, each with just the value or the error that stands there."""

import pathlib

from tests.support import Case

TEXT = (pathlib.Path(__file__).resolve().parent / "examples.txt").read_text(encoding="ascii")


def examples():
    """Each row of code with what it should give, None for a row that gives nothing."""
    rows = [line for line in TEXT.split("\n") if line]
    found = []
    for row, following in zip(rows, rows[1:] + [">>> "]):
        if row.startswith(">>> "):
            found.append((row[4:], None if following.startswith(">>> ") else following))
    return found


class TestExamples(Case):
    def assert_raised(self, code, told, names):
        kind, attributes = told[:-1].split("(", 1)
        with self.assertRaises(Exception) as caught:
            eval(code, names)
        self.assertEqual(caught.exception.__class__.__name__, kind)
        self.assertEqual(caught.exception.__class__.__module__, "shovefloors.errors")
        self.assertEqual(vars(caught.exception), eval(f"dict({attributes})"))

    def test_all(self):
        names, seen = {}, 0
        for code, wanted in examples():
            with self.subTest(code=code):
                if wanted is None:
                    exec(code, names)
                elif wanted.startswith("raises "):
                    self.assert_raised(code, wanted[len("raises "):], names)
                else:
                    self.assert_same(eval(code, names), eval(wanted, names))
                seen += wanted is not None
        self.assertEqual(seen, 24)
