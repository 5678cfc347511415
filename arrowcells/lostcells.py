"""Lost cells: what counting and sweeping leave, and runs in which counting is done."""

from arrowcells.codes import Code, walked
from arrowcells.errors import InvalidPlace
from arrowcells.kinds import is_place
from arrowcells.programs import letters_of_tree
from arrowcells.runs import Heap, Run, need_run
from arrowcells.stores import Store, need_store
from arrowcells.ways import lost, reached_cells


def _led_to(places, arrows):
    """The dict of the places to which some places or arrows lead, and how often they do."""
    found = {}
    for place in places + list(arrows.values()):
        found[place] = found.get(place, 0) + 1
    return found


def counted_arrows(places, arrows):
    """The arrows that counting leaves, where names lead to some places."""
    many = _led_to(places, arrows)
    left = dict(arrows)
    waiting = [cell for cell in arrows if cell not in many]
    while waiting:
        to = left.pop(waiting.pop())
        many[to] -= 1
        if many[to] == 0 and to in left:
            waiting.append(to)
    return left


def arrows_into(store, place):
    """How many arrows of cells lead to a place."""
    need_store(store)
    if not is_place(place):
        raise InvalidPlace(place)
    return _led_to([], store.arrows).get(place, 0)


def unasked(store):
    """The ascending tuple of the cells to which no name and no arrow leads."""
    need_store(store)
    return tuple([place for place, _ in store.cells if place not in store.led_to])


def lost_rings(store):
    """The ascending tuple of the lost rings, each with its least cell first."""
    cells = lost(store)
    arrows = {cell: store.arrows[cell] for cell in cells}
    rings, passed = [], {}
    for first in cells:
        row, place = [], first
        while place in arrows and place not in passed:
            passed[place] = True
            row.append(place)
            place = arrows[place]
        if place in row:
            ring = row[row.index(place):]
            at = ring.index(min(ring))
            rings.append(tuple(ring[at:] + ring[:at]))
    return tuple(sorted(rings))


def counted(store):
    """The store that counting leaves."""
    need_store(store)
    left = counted_arrows(list(store.places.values()), store.arrows)
    return Store(store.names, tuple([cell for cell in store.cells if cell[0] in left]))


def swept(store):
    """The store that sweeping leaves."""
    need_store(store)
    reached = reached_cells(store)
    return Store(store.names, tuple([cell for cell in store.cells if cell[0] in reached]))


class CountedHeap:
    """A heap in which counting is done at the beginning and after each deed; a test changes nothing to be counted."""

    def __init__(self, heap):
        self.heap = heap
        self.count_all()

    def count_all(self):
        """Takes away the cells that counting takes away."""
        self.heap.arrows = counted_arrows(list(self.heap.places.values()), self.heap.arrows)

    def asked(self, test):
        """Looks at a test, and tells whether it holds."""
        return self.heap.asked(test)

    def can(self, deed):
        """Whether a deed does not fail."""
        return self.heap.can(deed)

    def act(self, deed):
        """Does a deed that does not fail."""
        self.heap.act(deed)
        self.count_all()


def counted_run(program, store, most):
    """The counted run of a program on a store with at most so many steps."""
    tree = need_run(program, store, most)
    heap = Heap(store, letters_of_tree(tree))
    told = walked(Code(tree), CountedHeap(heap), most)
    heap.arrows = counted_arrows([heap.places[letter] for letter in store.letters], heap.arrows)
    return Run(heap, store.letters, told)
