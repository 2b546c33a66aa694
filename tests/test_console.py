import itertools
import random

from shovefloors import console as module
from shovefloors.console import Console
from shovefloors.errors import InvalidLine, NotAShape, NotFilled, NotWhole
from shovefloors.lattices import lattices
from shovefloors.places import copy_at, least_hues, neighbours
from shovefloors.shapes import Shape
from shovefloors.walks import walk
from tests.desk_record import Record, any_change
from tests.support import NO_SHAPES, NO_TUPLES, Case, Plain, all_lattices, text_of

ANGLE, BAR, CROSS = Shape.read("#.\n##"), Shape(((4, 7), (5, 7), (6, 7))), Shape.read(".#.\n###\n.#.")
BOWL, GAP, SPLIT = Shape.read("#.#\n###"), Shape.read("#.#"), Shape.read("#..#")
ONE, FULL = Shape(((0, 0),)), Shape(tuple([(x, 0) for x in range(24)]))

NO_NUMBERS = ["", "+1", "+0", "-0", "00", "01", "-01", "-00", "007", "0x1", "1.0", "1.", ".5", "1e3", "1_0", "--1", "-", "+",
              "- 1", "a", "x", "one", "True", "None", "1,", ",1", "(1", "1)", "\t1", "1\n", "\n1", "1\r", "\u0661", "\u00b2",
              "\uff11", "\u0967", "-\u0661", "1\u0661", "\u22121", "1-", "1-1"]
NO_LINES = [
    "", " ", "  ", "\n", "putt", "Put 0 1", "PUT 0 1", "put", "take", "repeat", "copy", "hues", "beside", "put 0", "take 0",
    "put 0 1 2", "take 0 0 0", "put  0 1", "put 0  1", " put 0 1", "put 0 1 ", "put 0 1\n", "put\t0 1", "put 0\t1", "put 0,1",
    "put (0, 1)", "put(0 1)", "repeat 0", "repeat 0 0 1", "repeat 0 0  1 1", "repeat 0 0 1 1 ", "repeat 0 0 1 x",
    "undo 1", "undo 0", "undo ", " undo", "undo\n", "Undo", "undone", "show 0", "show ", " show", "shows", "SHOW", "lattices 1",
    "lattices ", "lattice", "walk 0", "walk ", "walks", "copy 3 2 1", "copy 3 2 1 0", "copy 3 2 1 0 0 0",
    "copy 3 2 1  0 0", "hues 3 2", "hues 3", "hues 3 2 1 0", "hues 3 2 1 ", "beside 3 2", "beside 3 2 1 0", "beside",
    "0", "0 1", "put put", "show show", "show/walk", "show;walk", "cut", "help", "turned", "rest 3 2 1 0 0", "desk", "ok",
    "none", "NotWhole"]
NO_LATTICE_TEXTS = ["0 0 1", "1 1 1", "1 0 0", "3 3 1", "3 -1 1", "-3 -1 1", "-3 1 1", "3 1 -1", "101 0 1", "1 0 101",
                    "101 100 1", "3 4 1", "1000000 0 1", "3 10 1", "1 -1 1"]


def said(numbers):
    return " ".join(map(str, numbers))


class ConsoleCase(Case):
    def assert_shape(self, console, cells):
        self.assertEqual(console.say("show"), text_of(cells).replace("\n", "/"))
        found = [said(lattice) for lattice in lattices(Shape(cells))]
        self.assertEqual(console.say("lattices"), ", ".join(found) if found else "none")


class TestChanges(ConsoleCase):
    def test_long_drawn_rows(self):
        for seed in range(8):
            generator = random.Random(seed)
            start = generator.choice([ANGLE, BAR, ONE, FULL, GAP])
            console, record, names = Console(start), Record(start.cells), {}
            for _ in range(150):
                word, value = any_change(generator, record.cells())
                error, _ = record.error_of(word, value)
                numbers = {"undo": [], "repeat": value}.get(word, [value])
                line = " ".join([word] + [said(pair) for pair in numbers])
                if error is None:
                    self.assert_same(console.say(line), "ok")
                    record.do(word, value)
                else:
                    self.assert_same(console.say(line), error.__name__)
                    names[error.__name__] = True
                cells = record.cells()
                # The text of cells that lie far apart would be long.
                if max(map(max, cells)) < 100:
                    self.assert_shape(console, cells)
            self.assertIn("InvalidCell", names)

    def test_errors_of_the_desk(self):
        console = Console(ANGLE)
        rows = [("undo", "NothingToUndo"), ("put 0 0", "InvalidCell"), ("put 1001 0", "InvalidCell"),
                ("put 0 -1001", "InvalidCell"), ("take 1 0", "InvalidCell"), ("take -1 0", "InvalidCell"),
                ("put " + "9" * 80 + " 0", "InvalidCell"), ("take 0 -" + "9" * 80, "InvalidCell"),
                ("repeat 0 0 0 0", "InvalidShoves"), ("repeat 1001 0", "InvalidShoves"), ("repeat 0 -1001", "InvalidShoves"),
                ("repeat " + said([n for x in range(25) for n in (x, 0)]), "InvalidShoves"),
                ("repeat " + said([n for x in range(24) for n in (x, 0)]), "TooGreat"),
                ("repeat " + said([n for x in range(9) for n in (x, 0)]), "TooGreat"), ("repeat 0 0 0 1", "TooGreat")]
        for line, answer in rows:
            self.assert_same(console.say(line), answer)
            self.assert_shape(console, ANGLE.cells)
        self.assertEqual(console.say("undo"), "NothingToUndo")

    def test_twenty_four_cells_and_one(self):
        full, one = Console(FULL), Console(ONE)
        self.assertEqual([full.say("put 24 0"), full.say("put 0 0"), full.say("put 1001 0")],
                         ["TooGreat", "InvalidCell", "InvalidCell"])
        self.assertEqual([one.say("take 0 0"), one.say("take 1 0"), one.say("put 1000 0"), one.say("take 1000 0")],
                         ["TooGreat", "InvalidCell", "ok", "ok"])
        self.assertEqual(full.say("show"), "#" * 24)
        self.assertEqual(one.say("show"), "#")

    def test_numbers_below_zero(self):
        console = Console(ONE)
        for line, shown in (("put -1 0", "##"), ("put 0 -1", "#./##"), ("repeat 0 0 -2 -1", "#.../###./..##"),
                            ("take 0 0", "###./..##"), ("undo", "#.../###./..##"), ("undo", "#./##"), ("undo", "##"),
                            ("put -2 0", "#.##"), ("repeat 1000 -1000", "#.##")):
            self.assertEqual(console.say(line), "ok")
            self.assertEqual(console.say("show"), shown)

    def test_undo(self):
        console = Console(BAR)
        for line in ("put 3 0", "take 0 0", "repeat 5 5", "repeat 0 0 0 1"):
            self.assertEqual(console.say(line), "ok")
        self.assertEqual([console.say("undo") for _ in range(6)], ["ok"] * 4 + ["NothingToUndo"] * 2)
        self.assertEqual(console.say("show"), "###")


class TestAnswers(ConsoleCase):
    def test_show_lattices_and_walk(self):
        for shape in (ANGLE, BAR, CROSS, BOWL, GAP, SPLIT, ONE, FULL):
            console = Console(shape)
            self.assert_shape(console, shape.cells)
            try:
                wanted = walk(shape)
            except NotWhole:
                wanted = "NotWhole"
            self.assert_same(console.say("walk"), wanted)
        self.assertEqual(Console(GAP).say("lattices"), "none")
        self.assertEqual(Console(ONE).say("lattices"), "1 0 1")
        self.assertEqual(Console(ANGLE).say("show"), "#./##")
        self.assertEqual(Console(GAP).say("walk"), "NotWhole")

    def test_by_lattices(self):
        for shape in (ANGLE, BAR, CROSS, SPLIT, ONE, GAP):
            console = Console(shape)
            for lattice in all_lattices(5, 3) + [(100, 99, 100), (100, 0, 1), (1, 0, 100)]:
                for cell in ((0, 0), (-7, 5), (10 ** 30, -10 ** 30)):
                    try:
                        wanted = [said(copy_at(shape, lattice, cell)), str(least_hues(shape, lattice)),
                                  ", ".join([said(shove) for shove in neighbours(shape, lattice)])]
                    except NotFilled:
                        wanted = ["NotFilled"] * 3
                    found = [console.say(f"copy {said(lattice)} {said(cell)}"), console.say(f"hues {said(lattice)}"),
                             console.say(f"beside {said(lattice)}")]
                    self.assert_same(found, wanted)

    def test_they_change_nothing(self):
        console = Console(ANGLE)
        console.say("put 2 1")
        before = console.say("show")
        for line in ("show", "lattices", "walk", "copy 4 2 1 0 0", "copy 3 2 1 9 9", "hues 4 2 1", "beside 4 2 1"):
            self.assertEqual(console.say(line), console.say(line))
            self.assertEqual(console.say("show"), before)
        self.assertEqual([console.say("undo"), console.say("undo")], ["ok", "NothingToUndo"])

    def test_answers_follow_the_changes(self):
        console = Console(ANGLE)
        self.assertEqual(console.say("hues 3 2 1"), "3")
        console.say("put 1 0")
        self.assertEqual([console.say("hues 3 2 1"), console.say("hues 2 0 2"), console.say("copy 2 0 2 -1 -1")],
                         ["NotFilled", "2", "-2 -2"])
        console.say("undo")
        self.assertEqual(console.say("copy 3 2 1 10 10"), "9 9")


class TestLines(ConsoleCase):
    def assert_no_line(self, line):
        for shape in (ANGLE, FULL):
            console = Console(shape)
            console.say("take 0 0")
            before = [console.say("show"), console.say("lattices")]
            self.assert_given(InvalidLine, line, console.say, line)
            self.assertEqual([console.say("show"), console.say("lattices")], before)
            self.assertEqual([console.say("undo"), console.say("undo")], ["ok", "NothingToUndo"])

    def test_no_lines(self):
        for line in NO_LINES:
            self.assert_no_line(line)

    def test_numbers_of_other_forms(self):
        for number in NO_NUMBERS:
            for line in ("put {} 5", "put 5 {}", "take {} 0", "take 0 {}", "repeat {} 0", "repeat 0 {}", "repeat 0 0 9 {}",
                         "copy {} 2 1 0 0", "copy 3 {} 1 0 0", "copy 3 2 {} 0 0", "copy 3 2 1 {} 0", "copy 3 2 1 0 {}",
                         "hues {} 2 1", "hues 3 {} 1", "hues 3 2 {}", "beside {} 0 1", "beside 3 2 {}"):
                self.assert_no_line(line.format(number))

    def test_numbers_of_the_right_form(self):
        console = Console(ANGLE)
        for number in ("0", "-1", "10", "-10", "100", "1000", "-1000", "9", "1" + "0" * 79, "-" + "9" * 79):
            self.assertIn(console.say(f"put {number} 900"), ("ok", "InvalidCell"))
            self.assertIn(console.say(f"take 0 {number}"), ("ok", "InvalidCell"))
            self.assertIn(console.say(f"repeat {number} 5"), ("ok", "InvalidShoves"))
            self.assertEqual(Console(ONE).say(f"copy 1 0 1 {number} {number}"), f"{number} {number}")

    def test_lattices_that_are_none(self):
        for text in NO_LATTICE_TEXTS:
            for line in (f"copy {text} 0 0", f"hues {text}", f"beside {text}"):
                self.assert_no_line(line)
        for text in ("100 99 100", "100 0 1", "1 0 100"):
            self.assertEqual(Console(ANGLE).say(f"copy {text} 0 0"), "NotFilled")
            self.assertEqual(Console(ANGLE).say(f"hues {text}"), "NotFilled")
            self.assertEqual(Console(ANGLE).say(f"beside {text}"), "NotFilled")

    def test_no_strings(self):
        wrong = [value for value in NO_TUPLES if not isinstance(value, str)]
        for line in wrong + [(), ("show",), ["show"], b"show", b"put 0 1", ("put", 0, 1), {"show": 1}, Plain(), -1,
                             ((((),),),)]:
            self.assert_no_line(line)

    def test_one_sign_put_in_or_left_out(self):
        lines = ["put 5 5", "take 0 1", "repeat 0 0 7 7", "undo", "show", "lattices", "walk", "copy 3 2 1 4 -4", "hues 3 2 1",
                 "beside 3 2 1"]
        for line in lines:
            for at, sign in itertools.product(range(len(line) + 1), " \n\t.,+_/a#"):
                self.assert_no_line(line[:at] + sign + line[at:])
            for at in range(len(line.split(" ")[0])):
                self.assert_no_line(line[:at] + line[at + 1:])


class TestSeveral(ConsoleCase):
    def test_each_goes_on_by_itself(self):
        first, second = Console(ANGLE), Console(ANGLE)
        self.assertEqual([first.say("put 1 0"), second.say("show"), second.say("undo")], ["ok", "#./##", "NothingToUndo"])
        self.assertEqual([second.say("take 0 0"), first.say("show"), second.say("show")], ["ok", "##/##", "##"])
        self.assertEqual(ANGLE.cells, ((0, 0), (0, 1), (1, 1)))

    def test_a_console_equals_itself_alone(self):
        self.assert_alone([Console(ANGLE), Console(ANGLE), Console(GAP)])


class TestInterface(ConsoleCase):
    def test_defined_here(self):
        self.assertEqual(Console.__module__, module.__name__)
        self.assertIn("say", vars(Console))

    def test_no_shapes(self):
        for wrong in NO_SHAPES:
            self.assert_given(NotAShape, wrong, Console, wrong)
            self.assert_given(NotAShape, wrong, Console, shape=wrong)

    def test_by_name(self):
        console = Console(shape=BAR)
        self.assertEqual(console.say(line="hues 3 2 1"), "3")
        line = "put 0"
        self.assert_given(InvalidLine, line, console.say, line=line)

    def test_examples(self):
        console = Console(BAR)
        lines = ["lattices", "walk", "copy 3 1 1 5 -2", "take 1 0", "show", "walk", "undo", "hues 3 2 1", "beside 3 0 1",
                 "beside 4 0 1", "repeat 0 0 0 1", "show", "lattices"]
        self.assert_same(
            [console.say(line) for line in lines],
            ["3 0 1, 3 1 1, 3 2 1", "rrrdlllu", "4 -2", "ok", "#.#", "NotWhole", "ok", "3", "-3 0, 0 -1, 0 1, 3 0",
             "NotFilled", "ok", "###/###", "3 0 2, 3 1 2, 3 2 2, 6 3 1"])
        line = "put 0"
        self.assert_given(InvalidLine, line, console.say, line)
