"""Stores: names that lead to places, and cells with their arrows."""

from arrowcells.errors import InvalidCells, InvalidNames, InvalidPlace, InvalidText, NotAStore, UnknownName
from arrowcells.kinds import END, LAST_PLACE, is_letter, is_place, is_tuple_of, number_in

MOST_NAMES = 4
MOST_CELLS = 500


class Store:
    """A store; it never changes."""

    def __init__(self, names, cells):
        if not _are_store_names(names):
            raise InvalidNames(names)
        if not isinstance(cells, tuple):
            raise InvalidCells(None)
        wrong = _wrong_cell(cells)
        if wrong is not None:
            raise InvalidCells(wrong)
        self.take(names, cells)

    def __eq__(self, other):
        return isinstance(other, Store) and self.names == other.names and self.cells == other.cells

    def take(self, names, cells):
        """Sets all attributes; only for the making of a new object."""
        self.names = names
        self.cells = cells
        self.letters = "".join([letter for letter, _ in names])
        self.text = _store_text(names, cells)
        self.places = dict(names)
        self.arrows = dict(cells)
        self.led_to = {place: True for _, place in names + cells}

    def at(self, letter):
        """The place to which a name leads."""
        if not is_letter(letter) or letter not in self.places:
            raise UnknownName(letter)
        return self.places[letter]

    def arrow(self, place):
        """The place to which a cell's arrow leads, None for what is no cell."""
        if not is_place(place):
            raise InvalidPlace(place)
        return self.arrows.get(place)

    def is_gone(self, place):
        """Whether a place is no cell, though something leads to it."""
        if not is_place(place):
            raise InvalidPlace(place)
        return place != END and place not in self.arrows and place in self.led_to


def _are_store_names(value):
    """Whether a value is a tuple of one to four pairs of a letter and a place, ascending."""
    if not isinstance(value, tuple) or not 1 <= len(value) <= MOST_NAMES:
        return False
    before = ""
    for pair in value:
        if not is_tuple_of(pair, 2) or not is_letter(pair[0]) or not is_place(pair[1]) or pair[0] <= before:
            return False
        before = pair[0]
    return True


def _wrong_cell(cells):
    """The index of the first element of a tuple that is wrong as a cell, None if there is none."""
    before = END
    for index, pair in enumerate(cells):
        if index >= MOST_CELLS or not is_tuple_of(pair, 2) or not is_place(pair[0]) or not is_place(pair[1]):
            return index
        if pair[0] <= before:
            return index
        before = pair[0]
    return None


def _store_text(names, cells):
    """The text of the store with these names and cells."""
    leads = " ".join([f"{letter}={place}" for letter, place in names])
    arrows = " ".join([f"{place}>{to}" for place, to in cells])
    return f"{leads} | {arrows or 'none'}"


def need_store(value):
    """Raises NotAStore for what is no Store."""
    if not isinstance(value, Store):
        raise NotAStore(value)


def made_store(names, cells):
    """The store with these names and cells, however many cells there are and however great their places."""
    made = Store((("x", END),), ())
    made.take(names, cells)
    return made


def store_in(text):
    """The store that a value tells, None if it is not the text of a store."""
    halves = text.split(" | ") if isinstance(text, str) else []
    if len(halves) != 2:
        return None
    names = tuple([_name_in(word) for word in halves[0].split(" ")])
    cells = tuple([_cell_in(word) for word in halves[1].split(" ")]) if halves[1] != "none" else ()
    if not _are_store_names(names) or _wrong_cell(cells) is not None:
        return None
    return Store(names, cells)


def read_store(text):
    """The store with this text."""
    store = store_in(text)
    if store is None:
        raise InvalidText(text)
    return store


def _name_in(word):
    """The pair of a letter and a place in a word as x=1, with None for what is not there."""
    letter, _, place = word.partition("=")
    return letter, number_in(place, LAST_PLACE)


def _cell_in(word):
    """The pair of places in a word as 1>2, with None for what is not there."""
    place, _, to = word.partition(">")
    return number_in(place, LAST_PLACE), number_in(to, LAST_PLACE)
