"""The errors of the package: all stand under ArrowError alone."""


class ArrowError(ValueError):
    """The base of all errors of the package."""


class InvalidNames(ArrowError):
    """What should be names is none."""

    def __init__(self, given):
        self.given = given


class InvalidPlace(ArrowError):
    """What should be a place is none."""

    def __init__(self, given):
        self.given = given


class InvalidNumber(ArrowError):
    """What should be a number within its bounds is none."""

    def __init__(self, given):
        self.given = given


class InvalidText(ArrowError):
    """What should be the text of a value is none."""

    def __init__(self, given):
        self.given = given


class InvalidShape(ArrowError):
    """What should be the shape of a store is none."""

    def __init__(self, given):
        self.given = given


class InvalidLengths(ArrowError):
    """What should be lengths, or a lengths text, is none."""

    def __init__(self, given):
        self.given = given


class InvalidSaying(ArrowError):
    """What should be a saying, a picture or a tree of one is none."""

    def __init__(self, given):
        self.given = given


class InvalidPlacing(ArrowError):
    """What should be a placing of a picture is none."""

    def __init__(self, given):
        self.given = given


class InvalidProgram(ArrowError):
    """What should be a program, or a tree of one, is none."""

    def __init__(self, given):
        self.given = given


class InvalidTest(ArrowError):
    """What should be a test is none."""

    def __init__(self, given):
        self.given = given


class InvalidDeed(ArrowError):
    """What should be a deed is none."""

    def __init__(self, given):
        self.given = given


class InvalidIndex(ArrowError):
    """What should be an index is none."""

    def __init__(self, given):
        self.given = given


class InvalidLine(ArrowError):
    """What should be a line for a console is none."""

    def __init__(self, given):
        self.given = given


class NotAStore(ArrowError):
    """What should be a Store is none."""

    def __init__(self, given):
        self.given = given


class NotAPlan(ArrowError):
    """What should be a Plan is none."""

    def __init__(self, given):
        self.given = given


class NotLengths(ArrowError):
    """What should be a Lengths is none."""

    def __init__(self, given):
        self.given = given


class NotALot(ArrowError):
    """What should be a Lot is none."""

    def __init__(self, given):
        self.given = given


class NotABench(ArrowError):
    """What should be a Bench is none."""

    def __init__(self, given):
        self.given = given


class UnknownName(ArrowError):
    """What should be one of the names is none."""

    def __init__(self, given):
        self.given = given


class TooMany(ArrowError):
    """A number is above its bound."""

    def __init__(self, given):
        self.given = given


class Restless(ArrowError):
    """A far run changes its course too often at a loop."""

    def __init__(self, given):
        self.given = given


class Shared(ArrowError):
    """A letter is a helper of two programs."""

    def __init__(self, given):
        self.given = given


class NotApart(ArrowError):
    """A place is a cell of two stores that should lie apart."""

    def __init__(self, given):
        self.given = given


class Failed(ArrowError):
    """A deed fails."""

    def __init__(self, given):
        self.given = given


class InvalidCells(ArrowError):
    """An element of a tuple of cells is wrong."""

    def __init__(self, index):
        self.index = index


class InvalidNumbers(ArrowError):
    """An element of a tuple of numbers is wrong."""

    def __init__(self, index):
        self.index = index


class InvalidBoxes(ArrowError):
    """An element of a tuple of boxes is wrong."""

    def __init__(self, index):
        self.index = index


class InvalidWeights(ArrowError):
    """An element of a tuple of weights is wrong."""

    def __init__(self, index):
        self.index = index


class InvalidTurns(ArrowError):
    """An element of an order is wrong."""

    def __init__(self, index):
        self.index = index


class Broken(ArrowError):
    """A wish would not hold."""

    def __init__(self, index):
        self.index = index


class OtherNames(ArrowError):
    """Two values should have the same names."""

    def __init__(self, names, other):
        self.names = names
        self.other = other


class HasLoop(ArrowError):
    """A program should be without loops."""


class HasInnerLoop(ArrowError):
    """A program should have no loop within a loop."""


class NothingToUndo(ArrowError):
    """There is no change that can be taken back."""
