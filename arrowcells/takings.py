"""Parts of stores, stores laid together, and what pictures take out of stores."""

from arrowcells.codes import Code, walked
from arrowcells.errors import Failed, InvalidCells, NotApart, OtherNames, TooMany
from arrowcells.kinds import is_place
from arrowcells.placings import Search
from arrowcells.programs import letters_of_tree, need_few_letters, straight_tree
from arrowcells.runs import MOST_STEPS, Heap, need_few_cells
from arrowcells.sayings import need_picture, need_shown
from arrowcells.stores import MOST_CELLS, Store, need_store

MOST_TAKING_CELLS = 40


def _need_cells(value, store):
    """Raises InvalidCells for what is no ascending tuple of places of cells of a store."""
    if not isinstance(value, tuple):
        raise InvalidCells(None)
    before = 0
    for index, place in enumerate(value):
        if not is_place(place) or place not in store.arrows or place <= before:
            raise InvalidCells(index)
        before = place


def _part(store, places, are_kept):
    """The part of a store with the cells at some places, or with all others."""
    told = {place: True for place in places}
    return Store(store.names, tuple([cell for cell in store.cells if (cell[0] in told) == are_kept]))


def part_with(store, places):
    """The part of a store with just the cells at these places."""
    need_store(store)
    _need_cells(places, store)
    return _part(store, places, True)


def part_without(store, places):
    """The part of a store with all cells but those at these places."""
    need_store(store)
    _need_cells(places, store)
    return _part(store, places, False)


def laid_together(store, other):
    """The store with the cells of two stores that lie apart."""
    need_store(store)
    need_store(other)
    if store.names != other.names:
        raise OtherNames(store.names, other.names)
    for place, _ in store.cells:
        if place in other.arrows:
            raise NotApart(place)
    cells = sorted(store.cells + other.cells)
    if len(cells) > MOST_CELLS:
        raise TooMany(len(cells))
    return Store(store.names, tuple(cells))


def footprint(program, store):
    """The ascending tuple of the cells of a store that a program without loops reads or writes."""
    tree = straight_tree(program)
    need_store(store)
    need_few_letters(store.letters, tree)
    need_few_cells(store)
    heap = Heap(store, letters_of_tree(tree))
    word, _, deed = walked(Code(tree), heap, MOST_STEPS)
    if word == "fault":
        raise Failed(deed)
    return tuple([place for place, _ in store.cells if place in heap.reads or place in heap.writes])


def takings(store, picture):
    """The ascending tuple of the pairs of the places of a taking and the part of a store without them."""
    need_store(store)
    tree = need_picture(picture)
    need_shown(tree, store.letters)
    if len(store.cells) > MOST_TAKING_CELLS:
        raise TooMany(len(store.cells))
    found = [_cells_in(store, bits) for bits in Search(store, tree).all_used()]
    return tuple([(places, _part(store, places, False)) for places in sorted(found)])


def _cells_in(store, bits):
    """The ascending tuple of the cells of a store whose bits are set, counted in their order."""
    return tuple([place for number, (place, _) in enumerate(store.cells) if bits >> number & 1])
