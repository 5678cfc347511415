"""Runs of programs on stores."""

from arrowcells.codes import Code, walked
from arrowcells.deeds import change, does_hold, letters_asked, letters_set, needed
from arrowcells.errors import Failed, InvalidNumber, TooMany
from arrowcells.kinds import END, is_whole
from arrowcells.names import need_known
from arrowcells.programs import letters_of_tree, letters_tested, need_deed, need_few_letters, program_tree, test_tree
from arrowcells.stores import made_store, need_store

MOST_STEPS = 400
MOST_RUN_CELLS = 100


class Heap:
    """Places and arrows that a run changes, and what it has used."""

    def __init__(self, store, letters):
        self.store = store
        self.places = {letter: END for letter in letters}
        self.places.update(store.places)
        self.arrows = dict(store.arrows)
        self.been = dict(store.arrows)
        self.news = {}
        self.reads = {}
        self.writes = {}
        self.asks = {}
        self.sets = {}

    def asked(self, test):
        """Looks at a test, and tells whether it holds."""
        for letter in letters_tested(test):
            self.asks[letter] = True
        return does_hold(test, self.places)

    def can(self, deed):
        """Whether a deed does not fail."""
        letter = needed(deed)
        return letter is None or self.places[letter] in self.arrows

    def act(self, deed):
        """Does a deed that does not fail."""
        for letter in letters_asked(deed):
            self.asks[letter] = True
        fresh = self.new_place() if deed[0] == "new" else None
        letter = needed(deed)
        used = fresh if letter is None else self.places[letter]
        if deed[0] == "next":
            self.reads[used] = True
        elif deed[0] != "copy":
            self.writes[used] = True
        if deed[0] == "new":
            self.been[fresh] = True
            self.news[fresh] = True
        change(self.places, self.arrows, deed, fresh)
        for letter in letters_set(deed):
            self.sets[letter] = True

    def twin(self):
        """A heap that tells the same."""
        twin = Heap(self.store, "")
        twin.places = dict(self.places)
        twin.arrows = dict(self.arrows)
        twin.been = dict(self.been)
        twin.news = dict(self.news)
        twin.reads = dict(self.reads)
        twin.writes = dict(self.writes)
        twin.asks = dict(self.asks)
        twin.sets = dict(self.sets)
        return twin

    def new_place(self):
        """The place of a cell that is made now."""
        led_to = {place: True for place in list(self.places.values()) + list(self.arrows.values())}
        place = 1
        while place in self.been or place in led_to:
            place += 1
        return place


class Run:
    """What a run on a store has come to."""

    def __init__(self, heap, letters, told):
        self.word, self.steps, self.deed = told
        self.store = store_behind(heap, letters)
        self.reads = tuple(sorted(heap.reads))
        self.writes = tuple(sorted(heap.writes))
        self.asks = "".join([letter for letter in sorted(heap.asks) if letter in letters])
        self.sets = "".join([letter for letter in sorted(heap.sets) if letter in letters])


def store_behind(heap, letters):
    """The store that a heap is for the names with these letters."""
    names = tuple([(letter, heap.places[letter]) for letter in letters])
    return made_store(names, tuple([(place, heap.arrows[place]) for place in sorted(heap.arrows)]))


def run(program, store, most):
    """The run of a program on a store with at most so many steps."""
    return run_of_tree(need_run(program, store, most), store, most)


def need_run(program, store, most):
    """The tree of a program, behind all errors that a run of it on a store can give."""
    tree = program_tree(program)
    need_store(store)
    need_steps(most)
    need_few_letters(store.letters, tree)
    need_few_cells(store)
    return tree


def run_of_tree(tree, store, most):
    """The run of the program with this tree, however many cells the store has."""
    heap = Heap(store, letters_of_tree(tree))
    return Run(heap, store.letters, walked(Code(tree), heap, most))


def need_steps(value):
    """Raises InvalidNumber for no number of steps."""
    if not is_whole(value, 0, MOST_STEPS):
        raise InvalidNumber(value)


def need_few_cells(store):
    """Raises TooMany with the number of cells, if there are more than a run takes."""
    if len(store.cells) > MOST_RUN_CELLS:
        raise TooMany(len(store.cells))


def done(store, deed):
    """The store behind a single deed, a run by itself."""
    need_store(store)
    need_deed(deed)
    need_known(letters_of_tree((deed,)), store.letters)
    need_few_cells(store)
    heap = Heap(store, "")
    told = walked(Code((deed,)), heap, 1)
    if told[0] == "fault":
        raise Failed(deed)
    return Run(heap, store.letters, told).store


def holds(test, store):
    """Whether a test holds in a store."""
    tree = test_tree(test)
    need_store(store)
    need_known(letters_tested(tree), store.letters)
    return does_hold(tree, store.places)
