import itertools
import math
import random

from shovefloors import walks as module
from shovefloors.errors import InvalidCut, InvalidLattice, InvalidText, NotAShape, NotFilled, NotWhole
from shovefloors.lattices import lattices, rest
from shovefloors.shapes import Shape
from shovefloors.walks import cut_of, cuts, lattice_of, parts, shape_of, walk
from tests.support import NO_LATTICES, NO_SHAPES, NO_TUPLES, Case, Plain, whole_up_to

ANGLE, BAR, CROSS = Shape.read("#.\n##"), Shape(((4, 7), (5, 7), (6, 7))), Shape.read(".#.\n###\n.#.")
TEE, BOWL, GAP = Shape.read("###\n.#."), Shape.read("#.#\n###"), Shape.read("#.#")
ONE = Shape(((0, 0),))
BLOCK = Shape.read("##\n##")
LONG = Shape(tuple([(x, 0) for x in range(24)]))
GREAT = Shape(tuple(itertools.product(range(6), range(4))))
SNAKE = Shape.read("#####\n....#\n#####\n#....\n#####")
COMB = Shape.read("#.#.#.#\n#######")
NOT_WHOLE = [GAP, Shape.read("#.\n.#"), Shape.read("###\n#.#\n###"), Shape.read(".##\n#.#\n###"), Shape.read("#\n.\n#"),
             Shape(((-1000, -1000), (1000, 1000))), Shape.read("#####\n#...#\n#.#.#\n#...#\n#####")]
STEPS = {"r": (1, 0), "d": (0, 1), "l": (-1, 0), "u": (0, -1)}
BACK = {"r": "l", "l": "r", "d": "u", "u": "d"}
# The cells on the right and on the left hand of a step from a corner (x, y).
SIDES = {"r": ((0, 0), (0, -1)), "d": ((-1, 0), (0, 0)), "l": ((-1, -1), (-1, 0)), "u": ((0, -1), (-1, -1))}
WHOLE = whole_up_to(6) + [LONG, GREAT, SNAKE, COMB]
WRONG = Plain()


def corners(text, start):
    """The corners of a walk, with both ends."""
    found = [start]
    for letter in text:
        found.append((found[-1][0] + STEPS[letter][0], found[-1][1] + STEPS[letter][1]))
    return found


def part_between(text, start, end):
    """A part of a walk that is led round."""
    return "".join([text[at % len(text)] for at in range(start, end)])


def is_cut(text, points):
    """Whether the points are a cut, as the document tells it."""
    half = len(text) // 2
    ends = points[1:] + (points[0] + half,)
    for start, end in zip(points, ends):
        later = part_between(text, start + half, end + half)
        if part_between(text, start, end) != "".join([BACK[letter] for letter in reversed(later)]):
            return False
    return True


def is_walk(text):
    """Whether a string of steps goes around a whole shape: it comes back to its beginning and to no other corner."""
    found = corners(text, (0, 0))
    if len(text) < 4 or found[-1] != (0, 0) or len(set(found)) != len(text):
        return False
    area = sum(x * to_y - to_x * y for (x, y), (to_x, to_y) in zip(found, found[1:])) // 2
    first = min(found, key=lambda corner: (corner[1], corner[0]))
    return text[0] == "r" and first == (0, 0) and area <= 24


class TestWalk(Case):
    def test_known_ones(self):
        known = {
            "#": "rdlu", "##": "rrdllu", "#\n#": "rddluu", "#.\n##": "rdrdlluu", ".#\n##": "rddlluru",
            "##\n#.": "rrdldluu", "##\n.#": "rrddlulu", "###": "rrrdlllu", "##\n##": "rrddlluu",
            ".#.\n###\n.#.": "rdrdldluluru", "#.#\n###": "rdrurddllluu", "###\n.#.": "rrrdldlulu",
            "..#\n###": "rddlllurru", "#" * 24: "r" * 24 + "d" + "l" * 24 + "u"}
        for text, wanted in known.items():
            self.assert_same(walk(Shape.read(text)), wanted)

    def test_the_shape_lies_on_the_right_hand(self):
        for shape in WHOLE:
            text = walk(shape)
            y, x = min([(y, x) for x, y in shape.cells])
            at = corners(text, (x, y))
            self.assertEqual(text[0], "r")
            for (column, line), letter in zip(at, text):
                right, left = [(column + a, line + b) in shape.cells for a, b in SIDES[letter]]
                self.assertIs(right, True)
                self.assertIs(left, False)

    def test_it_comes_back_and_takes_each_edge_once(self):
        for shape in WHOLE:
            text = walk(shape)
            at = corners(text, (0, 0))
            edges = [(x + a, y + b) not in shape.cells for x, y in shape.cells for a, b in STEPS.values()]
            self.assertEqual(at[-1], (0, 0))
            self.assertEqual(len(set(at)), len(text))
            self.assertEqual(len(text), sum(edges))
            self.assertEqual(text.count("r"), text.count("l"))
            self.assertEqual(text.count("d"), text.count("u"))
            self.assertLessEqual(set(text), set("rdlu"))

    def test_where_the_shape_lay_does_not_matter(self):
        self.assertEqual(walk(Shape(((-1000, 999), (-1000, 1000), (-999, 1000)))), walk(ANGLE))

    def test_wrong_shapes(self):
        for wrong in NO_SHAPES:
            for call in (walk, cuts):
                self.assert_given(NotAShape, wrong, call, wrong)
                self.assert_given(NotAShape, wrong, call, shape=wrong)
        for shape in NOT_WHOLE:
            for call in (walk, cuts):
                self.assert_bare(NotWhole, call, shape)

    def test_by_name(self):
        self.assertEqual(walk(shape=ANGLE), "rdrdlluu")
        self.assertEqual(cuts(shape=ANGLE), ((0, 1, 3),))


class TestCuts(Case):
    def test_against_all_tuples(self):
        for shape in WHOLE:
            text = walk(shape)
            points = range(len(text) // 2)
            found = [cut for many in (2, 3) for cut in itertools.combinations(points, many) if is_cut(text, cut)]
            self.assert_same(cuts(shape), tuple(sorted(found)))

    def test_each_lattice_comes_from_just_one_cut(self):
        for shape in WHOLE:
            found = [lattice_of(shape, cut) for cut in cuts(shape)]
            self.assert_same(sorted(found), list(lattices(shape)))

    def test_shapes_that_fill_by_no_lattice(self):
        stuck = [shape for shape in WHOLE if not lattices(shape)]
        self.assertGreater(len(stuck), 50)
        for shape in stuck + [BOWL]:
            self.assertEqual(cuts(shape), ())

    def test_shapes_that_fill_by_many(self):
        self.assertEqual(cuts(ONE), ((0, 1),))
        self.assertEqual(len(cuts(LONG)), 24)
        self.assertEqual(cuts(BLOCK), ((0, 1, 2), (0, 2), (0, 2, 3)))


class TestLatticeOf(Case):
    def test_made_of_what_brings_the_later_parts_on_to_the_earlier_ones(self):
        for shape in WHOLE:
            text = walk(shape)
            half = len(text) // 2
            at = corners(text + text, (0, 0))
            for cut in cuts(shape):
                lattice = lattice_of(shape, cut)
                shoves = []
                for start, end in zip(cut, cut[1:] + (cut[0] + half,)):
                    earlier, later = at[start:end + 1], at[start + half:end + half + 1]
                    a, b = earlier[0][0] - later[-1][0], earlier[0][1] - later[-1][1]
                    self.assertEqual([(x + a, y + b) for x, y in reversed(later)], earlier)
                    self.assertEqual(rest(lattice, (a, b)), (0, 0))
                    shoves.append((a, b))
                areas = [a * d - b * c for (a, b), (c, d) in itertools.combinations(shoves, 2)]
                self.assertEqual(math.gcd(*areas), lattice[0] * lattice[2])
                self.assert_same(lattice, tuple(list(lattice)))

    def test_by_name(self):
        self.assertEqual(lattice_of(cut=(0, 1, 3), shape=BAR), (3, 2, 1))
        self.assertEqual(parts(cut=(0, 3), shape=BAR), ("rrr", "d", "lll", "u"))
        for call in (lattice_of, parts):
            self.assert_given(InvalidCut, WRONG, call, cut=WRONG, shape=BAR)
            self.assert_given(NotAShape, WRONG, call, cut=None, shape=WRONG)


NO_CUTS = NO_TUPLES + [
    (), (0,), (3,), (0, 1, 2, 3), (0, 1, 3, 3), (0, 3, 4), (0, 4), (0, 7), (3, 4), (4, 7), (0, 1, 3, 4, 5, 7), (0, 8),
    (3, 0), (3, 1, 0), (0, 3, 1), (1, 0, 3), (0, 0), (3, 3), (0, 0, 3), (0, 3, 3), (0, 1, 1), (-1, 3), (-4, -1),
    (-1, 0),
    (0, -1), (-4, 3), (0, 1, -1), [0, 3], [0, 1, 3], ((0, 3),), "03", "013", {0: 3}, {0, 3}, range(0, 6, 3),
    (0, None), (None, 3), (0, "3"), ("0", 3), (0, [3]), ([0], 3), (0, (3,)), (Plain(), 3), (0, Plain()),
    (0, 1, Plain()),
    (Plain(), Plain()), (Plain(), Plain(), Plain()), (False, 3), (0, True, 3), (False, True, 3), (0, 2, True),
    (False, 1, 3), (0, 10 ** 79), (-10 ** 79, 3), (((((0,),),),), 3), (1, 3), (0, 1), (0, 2), (1, 2), (1, 2, 3),
    (0, 1, 2),
    (b"0", 3)]


class TestWrongCuts(Case):
    def test_no_cuts_of_a_bar(self):
        self.assertEqual(cuts(BAR), ((0, 1, 3), (0, 2, 3), (0, 3)))
        for wrong in NO_CUTS:
            for call in (lattice_of, parts):
                self.assert_given(InvalidCut, wrong, call, BAR, wrong)

    def test_all_tuples_that_are_none(self):
        for shape in (ONE, ANGLE, BLOCK, CROSS, TEE, BOWL):
            half = len(walk(shape)) // 2
            numbers = range(-1, half + 2)
            for wrong in itertools.chain(itertools.product(numbers, repeat=2), itertools.product(numbers, repeat=3)):
                for call in (lattice_of, parts):
                    if wrong not in cuts(shape):
                        self.assert_given(InvalidCut, wrong, call, shape, wrong)

    def test_shapes_without_cuts(self):
        for wrong in ((0, 1), (0, 3), (0, 1, 3), None):
            self.assert_given(InvalidCut, wrong, lattice_of, BOWL, wrong)
            self.assert_given(InvalidCut, wrong, parts, BOWL, wrong)

    def test_order_of_errors(self):
        for call in (lattice_of, parts):
            for wrong in NO_SHAPES:
                self.assert_given(NotAShape, wrong, call, wrong, None)
                self.assert_given(NotAShape, wrong, call, wrong, (0, 1))
            for shape in NOT_WHOLE:
                self.assert_bare(NotWhole, call, shape, (0, 1))
                self.assert_bare(NotWhole, call, shape, None)
                self.assert_bare(NotWhole, call, shape, [])


class TestParts(Case):
    def test_put_together_they_are_the_walk_led_round(self):
        for shape in WHOLE:
            text = walk(shape)
            for cut in cuts(shape):
                found = parts(shape, cut)
                half = len(text) // 2
                points = cut + tuple([point + half for point in cut]) + (cut[0] + len(text),)
                wanted = [part_between(text, start, end) for start, end in zip(points, points[1:])]
                self.assert_same(found, tuple(wanted))
                self.assertEqual(len(found), 2 * len(cut))
                self.assertEqual("".join(found), text[cut[0]:] + text[:cut[0]])
                self.assertNotIn("", found)
                for one, two in zip(found, found[len(cut):]):
                    self.assertEqual(one, "".join([BACK[letter] for letter in reversed(two)]))

    def test_a_first_point_that_is_not_the_beginning(self):
        found = [(shape, cut) for shape in WHOLE for cut in cuts(shape) if cut[0] > 0]
        self.assertGreater(len(found), 10)
        self.assertEqual(cuts(CROSS), ((0, 3), (1, 4)))
        self.assertEqual(parts(CROSS, (1, 4)), ("drd", "ldl", "ulu", "rur"))


class TestCutOf(Case):
    def test_each_lattice_leads_back(self):
        for shape in WHOLE:
            for lattice in lattices(shape):
                cut = cut_of(shape, lattice)
                self.assertIn(cut, cuts(shape))
                self.assertIs(cut.__class__, tuple)
                self.assertEqual(lattice_of(shape, cut), lattice)

    def test_wrong_arguments_in_their_order(self):
        for wrong in NO_SHAPES:
            self.assert_given(NotAShape, wrong, cut_of, wrong, None)
        for wrong in NO_LATTICES:
            self.assert_given(InvalidLattice, wrong, cut_of, BAR, wrong)
            self.assert_given(InvalidLattice, wrong, cut_of, GAP, wrong)
        for shape in NOT_WHOLE:
            for lattice in ((2, 0, 1), (1, 0, 2), (2, 1, 1), (8, 0, 1), (100, 99, 100)):
                self.assert_bare(NotWhole, cut_of, shape, lattice)
        for lattice in ((2, 0, 1), (1, 0, 3), (3, 0, 2), (100, 0, 100)):
            self.assert_bare(NotFilled, cut_of, BAR, lattice)
        self.assert_bare(NotFilled, cut_of, BOWL, (5, 2, 1))
        self.assert_bare(NotFilled, cut_of, ANGLE, (3, 1, 1))

    def test_a_shape_that_fills_but_is_not_whole(self):
        # It fills by the lattice, so this is not asked.
        self.assertEqual(lattices(Shape.read("#.\n.#")), ((1, 0, 2), (2, 0, 1)))
        self.assert_bare(NotWhole, cut_of, Shape.read("#.\n.#"), (2, 0, 1))

    def test_by_name(self):
        self.assertEqual(cut_of(lattice=(3, 0, 1), shape=BAR), (0, 3))
        self.assert_given(InvalidLattice, WRONG, cut_of, lattice=WRONG, shape=GAP)


class TestShapeOf(Case):
    def test_told_back(self):
        for shape in WHOLE:
            found = shape_of(walk(shape))
            self.assertIs(found.__class__, Shape)
            self.assertEqual(found.cells, shape.cells)

    def test_all_short_strings(self):
        told = 0
        strings = [text for many in range(7) for text in itertools.product("rdlu", repeat=many)]
        strings += [("r",) + text for many in (6, 7) for text in itertools.product("rdlu", repeat=many)]
        for letters in strings:
            text = "".join(letters)
            if is_walk(text):
                self.assertEqual(walk(shape_of(text)), text)
                told += 1
            else:
                self.assert_given(InvalidText, text, shape_of, text)
        # Those around one, two, three and four cells: all that have up to eight edges.
        self.assertEqual(told, 1 + 2 + 6 + 1)

    def test_begun_elsewhere_or_backwards(self):
        for shape in whole_up_to(5) + [SNAKE, COMB]:
            text = walk(shape)
            wrong = [text[at:] + text[:at] for at in range(1, len(text))]
            wrong += [text[::-1], "".join([BACK[letter] for letter in reversed(text)])]
            wrong += ["".join([BACK[letter] for letter in text]), text + text, text * 3]
            for given in wrong:
                self.assert_given(InvalidText, given, shape_of, given)

    def test_a_letter_more_or_less_or_another_one(self):
        for shape in whole_up_to(5) + [SNAKE, COMB]:
            text = walk(shape)
            wrong = [text[:at] + text[at + 1:] for at in range(len(text))]
            wrong += [text[:at] + letter + text[at:] for at in range(len(text) + 1) for letter in "rdlu"]
            wrong += [text[:at] + letter + text[at + 1:] for at in range(len(text)) for letter in "rdlu"
                      if text[at] != letter]
            for given in wrong:
                self.assert_given(InvalidText, given, shape_of, given)

    def test_two_letters_exchanged(self):
        refused = 0
        for shape in whole_up_to(5) + [SNAKE, COMB]:
            text = walk(shape)
            for one, two in itertools.combinations(range(len(text)), 2):
                given = text[:one] + text[two] + text[one + 1:two] + text[one] + text[two + 1:]
                if is_walk(given):
                    self.assertEqual(walk(shape_of(given)), given)
                else:
                    refused += 1
                    self.assert_given(InvalidText, given, shape_of, given)
        self.assertGreater(refused, 1000)

    def test_any_letters_exchanged(self):
        source = random.Random(11)
        for _ in range(3000):
            letters = list("rrddlluu" + "rl" * source.randrange(4) + "du" * source.randrange(4))
            source.shuffle(letters)
            given = "r" + "".join(letters) + "l"
            if is_walk(given):
                self.assertEqual(walk(shape_of(given)), given)
            else:
                self.assert_given(InvalidText, given, shape_of, given)

    def test_walks_that_touch_or_cross_themselves(self):
        wrong = ["rl", "rrll", "rdul", "rrdlul", "rdlurdlu", "rruldl", "rdlluurd", "rrdldrulul",
                 # Around two cells that have a corner in common, in both orders and led across.
                 "rdrdlulu", "rdldruru", "rdldruluru",
                 # Around a ring of seven cells that is closed at a corner, and within it, too.
                 "rrdddllluurdrulu",
                 # Around a ring of eight cells, along a seam to what is within it.
                 "rdrurdrrdddlllluuuu", "rrrdddlllurdruluu"]
        for given in wrong:
            self.assertIs(is_walk(given), False)
            self.assert_given(InvalidText, given, shape_of, given)

    def test_too_many_cells(self):
        for wide, high in ((24, 1), (1, 24), (6, 4), (4, 6), (12, 2)):
            text = "r" * wide + "d" * high + "l" * wide + "u" * high
            self.assertEqual((len(shape_of(text)), walk(shape_of(text))), (24, text))
        for wide, high in ((25, 1), (1, 25), (5, 5), (13, 2), (30, 1), (100, 100), (1000, 999)):
            text = "r" * wide + "d" * high + "l" * wide + "u" * high
            self.assert_given(InvalidText, text, shape_of, text)

    def test_no_walks(self):
        wrong = ["", " ", "r", "rd", "rdl", "RDLU", "rdlu ", " rdlu", "rdlu\n", "r d l u", "rdlx", "xdlu", "abcd", "#",
                 "rdlu,", "0123", "rdlur", "lurd", "rrrr", "rrdluull", "r" * 4000, "rdlu" * 1000]
        wrong += [None, True, False, 0, 4, (), ("r", "d", "l", "u"), ["r", "d", "l", "u"], b"rdlu", {"rdlu": 1},
                  {"rdlu"},
                  ("rdlu",), ["rdlu"], Plain(), ONE, Shape, ((((1,),),),)]
        for given in wrong:
            self.assert_given(InvalidText, given, shape_of, given)
            self.assert_given(InvalidText, given, shape_of, text=given)

    def test_by_name(self):
        self.assertEqual(shape_of(text="rdlu"), ONE)


class TestInterface(Case):
    def test_defined_here(self):
        for function in (walk, cuts, lattice_of, cut_of, parts, shape_of):
            self.assertEqual(function.__module__, module.__name__)

    def test_equal_calls_and_the_shape_stays(self):
        cells = CROSS.cells
        for call in (walk, cuts):
            self.assertEqual(call(CROSS), call(CROSS))
        self.assertEqual(CROSS.cells, cells)

    def test_examples(self):
        self.assert_same(
            [walk(ANGLE), walk(BAR), cuts(BAR), lattice_of(BAR, (0, 1, 3)), lattice_of(BAR, (0, 2, 3)),
             lattice_of(BAR, (0, 3)), cuts(BOWL)],
            ["rdrdlluu", "rrrdlllu", ((0, 1, 3), (0, 2, 3), (0, 3)), (3, 2, 1), (3, 1, 1), (3, 0, 1), ()])
        self.assert_same(
            [cuts(ANGLE), lattice_of(ANGLE, cuts(ANGLE)[0]), cut_of(BAR, (3, 0, 1)), len(cuts(CROSS)),
             walk(Shape(((0, 0),))), parts(ANGLE, (0, 1, 3)), shape_of("rrrdlllu") == BAR],
            [((0, 1, 3),), (3, 2, 1), (0, 3), 2, "rdlu", ("r", "dr", "d", "l", "lu", "u"), True])
        self.assert_bare(NotWhole, walk, GAP)
