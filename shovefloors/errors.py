"""The errors of the package, each under one of three bases."""


class WrongValue(ValueError):
    """An argument is not of the kind or form that is asked for."""

    def __init__(self):
        super().__init__("an argument is not valid")


class InvalidText(WrongValue):
    """A text is none of those that are asked for."""

    def __init__(self, given):
        super().__init__()
        self.given = given


class InvalidName(WrongValue):
    """A value is no name."""

    def __init__(self, given):
        super().__init__()
        self.given = given


class InvalidNumber(WrongValue):
    """A value is no integer within the limits."""

    def __init__(self, given):
        super().__init__()
        self.given = given


class InvalidWish(WrongValue):
    """A value is no wish."""

    def __init__(self, given):
        super().__init__()
        self.given = given


class InvalidIndex(WrongValue):
    """A value is no index of a wish."""

    def __init__(self, given):
        super().__init__()
        self.given = given


class InvalidLine(WrongValue):
    """A value is no line for a console."""

    def __init__(self, given):
        super().__init__()
        self.given = given


class InvalidCell(WrongValue):
    """A value is no cell or shove, or none that can be taken here."""

    def __init__(self, given):
        super().__init__()
        self.given = given


class InvalidLattice(WrongValue):
    """A value is no lattice, or none that can be taken here."""

    def __init__(self, given):
        super().__init__()
        self.given = given


class InvalidCut(WrongValue):
    """A value is no cut of the walk."""

    def __init__(self, given):
        super().__init__()
        self.given = given


class NotAShape(WrongValue):
    """A value is no Shape."""

    def __init__(self, given):
        super().__init__()
        self.given = given


class InvalidCells(WrongValue):
    """A value is no tuple of cells; the index is that of the first wrong one."""

    def __init__(self, index):
        super().__init__()
        self.index = index


class InvalidShoves(WrongValue):
    """A value is no tuple of shoves; the index is that of the first wrong one."""

    def __init__(self, index):
        super().__init__()
        self.index = index


class InvalidShapes(WrongValue):
    """A value is no tuple of shapes; the index is that of the first wrong one."""

    def __init__(self, index):
        super().__init__()
        self.index = index


class InvalidDeeds(WrongValue):
    """Some values are no deeds; the index is that of the first wrong one."""

    def __init__(self, index):
        super().__init__()
        self.index = index


class WrongName(LookupError):
    """A name is asked for that is not there."""

    def __init__(self):
        super().__init__("a name is not there")


class UnknownName(WrongName):
    """A value is no name of the book."""

    def __init__(self, given):
        super().__init__()
        self.given = given


class NoAnswer(ArithmeticError):
    """The arguments are valid, but there is no answer to them."""

    def __init__(self):
        super().__init__("there is no answer")


class NotWhole(NoAnswer):
    """A shape is not whole."""

    def __init__(self):
        super().__init__()


class NotFilled(NoAnswer):
    """A shape does not fill by the lattice."""

    def __init__(self):
        super().__init__()


class TooGreat(NoAnswer):
    """A number is beyond its limit."""

    def __init__(self, given):
        super().__init__()
        self.given = given


class Broken(NoAnswer):
    """A wish would not hold; the index is that of the first such one."""

    def __init__(self, index):
        super().__init__()
        self.index = index


class InUse(NoAnswer):
    """A wish needs what is to be dropped; the index is that of the first such one."""

    def __init__(self, index):
        super().__init__()
        self.index = index


class NothingToUndo(NoAnswer):
    """There is no change that could be taken back."""

    def __init__(self):
        super().__init__()
