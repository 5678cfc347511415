"""Two programs without loops that run side by side on one store."""

from arrowcells.codes import Code, can_do, do_row, walked
from arrowcells.deeds import letters_asked
from arrowcells.errors import InvalidText, InvalidTurns, Shared, TooMany
from arrowcells.kinds import is_whole
from arrowcells.plans import plan_of
from arrowcells.programs import MOST_LETTERS, deeds_in, letters_of_tree, statements_in, straight_tree
from arrowcells.runs import MOST_STEPS, Heap, need_few_cells, store_behind
from arrowcells.stores import need_store

MOST_WOVEN_STATEMENTS = 10
MOST_TURNS = 100


class Weaving:
    """Two programs that run side by side, when some of their steps have been done."""

    def __init__(self, codes, ats, heap):
        self.codes = codes
        # The row that each program does next, None if it is done.
        self.ats = ats
        self.heap = heap
        self.has_failed = False

    def twin(self):
        """A weaving that has come as far."""
        return Weaving(self.codes, list(self.ats), self.heap.twin())

    def can_step(self, which):
        """Whether there is a step of a program to be done."""
        return not self.has_failed and self.ats[which] is not None

    def do_step(self, which):
        """Does or tries a step of a program; there must be one."""
        row = self.codes[which].rows[self.ats[which]]
        if can_do(row, self.heap):
            self.ats[which] = do_row(row, self.heap)
        else:
            self.has_failed = True

    def end(self):
        """The end of the weaving, when it is over."""
        if self.has_failed:
            return "fault"
        return plan_of(store_behind(self.heap, self.heap.store.letters)).text


class Use:
    """Which cells and names of a store a program uses that runs alone."""

    def __init__(self, tree, store):
        heap = Heap(store, letters_of_tree(tree))
        _, _, deed = walked(Code(tree), heap, MOST_STEPS)
        self.writes = [place for place in heap.writes if place in store.arrows]
        self.sets = [letter for letter in heap.sets if letter in store.letters]
        self.uses = {}
        for told in (heap.reads, heap.writes, heap.asks, heap.sets):
            self.uses.update(told)
        # The names that a failing deed would ask count, too.
        for letter in [] if deed is None else letters_asked(deeds_in(tree)[deed]):
            self.uses[letter] = True

    def is_in_the_way_of(self, other):
        """Whether something that this program writes or sets is used by another one."""
        return any([word in other.uses for word in self.writes + self.sets])


def _trees(program, other, store):
    """The trees of two programs, behind the errors that they and a store can give by themselves."""
    trees = [straight_tree(program), straight_tree(other)]
    need_store(store)
    return trees


def _begun(trees, store):
    """The weaving of two programs none of whose steps has been done; the last errors of all functions here."""
    letters = [letters_of_tree(tree) for tree in trees]
    for letter in letters[0]:
        if letter in letters[1] and letter not in store.letters:
            raise Shared(letter)
    many = len(set(store.letters + letters[0] + letters[1]))
    if many > MOST_LETTERS:
        raise TooMany(many)
    statements = statements_in(trees[0]) + statements_in(trees[1])
    if statements > MOST_WOVEN_STATEMENTS:
        raise TooMany(statements)
    need_few_cells(store)
    codes = [Code(tree) for tree in trees]
    return Weaving(codes, [code.entry for code in codes], Heap(store, letters[0] + letters[1]))


def _ends_from(weaving, order):
    """The dict of the ends of a weaving with the least orders to them, which go on from an order."""
    steps = [which for which in (0, 1) if weaving.can_step(which)]
    if not steps:
        return {weaving.end(): order}
    found = {}
    # No order of a weaving is the beginning of another one, so the orders come in ascending order.
    for which in steps:
        twin = weaving.twin()
        twin.do_step(which)
        for end, told in _ends_from(twin, order + (which,)).items():
            found.setdefault(end, told)
    return found


def weavings(program, other, store):
    """The ascending tuple of the ends of all weavings of two programs."""
    trees = _trees(program, other, store)
    return tuple(sorted(_ends_from(_begun(trees, store), ())))


def woven(program, other, store, order):
    """The end of the weaving of two programs with an order."""
    trees = _trees(program, other, store)
    _need_order(order)
    weaving = _begun(trees, store)
    for which in order:
        if weaving.can_step(which):
            weaving.do_step(which)
    for which in (0, 1):
        while weaving.can_step(which):
            weaving.do_step(which)
    return weaving.end()


def _need_order(value):
    """Raises InvalidTurns for what is no order."""
    if not isinstance(value, tuple):
        raise InvalidTurns(None)
    for index, which in enumerate(value):
        if index >= MOST_TURNS or not is_whole(which, 0, 1):
            raise InvalidTurns(index)


def weaving_to(program, other, store, end):
    """The least order that tells each step of a weaving with an end, None if there is none."""
    trees = _trees(program, other, store)
    if not isinstance(end, str):
        raise InvalidText(end)
    return _ends_from(_begun(trees, store), ()).get(end)


def touching(program, other, store):
    """Whether two programs touch on a store."""
    trees = _trees(program, other, store)
    _begun(trees, store)
    first, second = Use(trees[0], store), Use(trees[1], store)
    return first.is_in_the_way_of(second) or second.is_in_the_way_of(first)
