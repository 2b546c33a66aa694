"""Consoles: desks by lines."""

from shovefloors.arguments import is_passed_lattice
from shovefloors.desks import Desk
from shovefloors.errors import InvalidCell, InvalidLine, InvalidShoves, NotFilled, NothingToUndo, NotWhole, TooGreat
from shovefloors.places import copy_at, least_hues, neighbours
from shovefloors.walks import walk

DIGITS = "0123456789"
# How many integers stand behind each word but `repeat`.
LENGTHS = {
    "put": 2, "take": 2, "undo": 0, "show": 0, "lattices": 0, "walk": 0, "copy": 5, "hues": 3, "beside": 3}
OF_LATTICES = ("copy", "hues", "beside")


def is_number(text):
    """Whether a text is an integer in decimal digits, without needless ones."""
    digits = text.removeprefix("-")
    if digits == "" or not all([digit in DIGITS for digit in digits]):
        return False
    return text == "0" or digits[0] != "0"


def fits(word, many):
    """Whether so many integers can stand behind a word."""
    if word == "repeat":
        return many > 0 and many % 2 == 0
    return word in LENGTHS and many == LENGTHS[word]


def is_line(value):
    """Whether a value is a line for a console."""
    if not isinstance(value, str):
        return False
    word, *texts = value.split(" ")
    if not fits(word, len(texts)) or not all([is_number(text) for text in texts]):
        return False
    return word not in OF_LATTICES or is_passed_lattice(tuple([int(text) for text in texts[:3]]))


def spaced(numbers):
    """Some integers with single spaces between."""
    return " ".join([str(number) for number in numbers])


def listed(rows):
    """Some tuples of integers, with commas between."""
    return ", ".join([spaced(row) for row in rows])


def change(desk, word, numbers):
    """Does at a desk what a line says that changes its shape."""
    if word == "put":
        desk.put(tuple(numbers))
    elif word == "take":
        desk.take(tuple(numbers))
    elif word == "repeat":
        desk.repeat(tuple(zip(numbers[::2], numbers[1::2])))
    else:
        desk.undo()


def changed(desk, word, numbers):
    """The answer to a line that changes the shape of a desk."""
    try:
        change(desk, word, numbers)
    except InvalidCell:
        return "InvalidCell"
    except InvalidShoves:
        return "InvalidShoves"
    except TooGreat:
        return "TooGreat"
    except NothingToUndo:
        return "NothingToUndo"
    return "ok"


def of_shape(desk, word):
    """The answer to a line that asks for the shape of a desk."""
    if word == "show":
        return str(desk.shape).replace("\n", "/")
    if word == "lattices":
        found = listed(desk.lattices)
        return "none" if found == "" else found
    try:
        return walk(desk.shape)
    except NotWhole:
        return "NotWhole"


def of_lattice(desk, word, numbers):
    """The answer to a line that asks for the copies by a lattice."""
    lattice = tuple(numbers[:3])
    try:
        if word == "copy":
            return spaced(copy_at(desk.shape, lattice, tuple(numbers[3:])))
        if word == "hues":
            return str(least_hues(desk.shape, lattice))
        return listed(neighbours(desk.shape, lattice))
    except NotFilled:
        return "NotFilled"


class Console:
    """A desk by lines."""

    def __init__(self, shape):
        self._desk = Desk(shape)

    def __eq__(self, other):
        return self is other

    def say(self, line):
        """The answer to a line."""
        if not is_line(line):
            raise InvalidLine(line)
        word, *texts = line.split(" ")
        numbers = [int(text) for text in texts]
        if word in OF_LATTICES:
            return of_lattice(self._desk, word, numbers)
        if word in ("show", "lattices", "walk"):
            return of_shape(self._desk, word)
        return changed(self._desk, word, numbers)
