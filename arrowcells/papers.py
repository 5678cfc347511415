"""What is told in papers for the checker: the stores of a run, and the matching of two stores."""

from arrowcells.codes import Code, walked
from arrowcells.plans import stretches_of
from arrowcells.programs import letters_of_tree
from arrowcells.runs import MOST_STEPS, Heap, store_behind


class ToldHeap:
    """A heap that tells the texts of the stores behind its deeds."""

    def __init__(self, heap):
        self.heap = heap
        self.texts = []

    def asked(self, test):
        """Looks at a test, and tells whether it holds."""
        return self.heap.asked(test)

    def can(self, deed):
        """Whether a deed does not fail."""
        return self.heap.can(deed)

    def act(self, deed):
        """Does a deed that does not fail."""
        self.heap.act(deed)
        self.texts.append(store_behind(self.heap, self.heap.store.letters).text)


def run_texts(tree, store, most):
    """The tuple of the texts of the stores behind the deeds of a run, None if it is not done."""
    told = ToldHeap(Heap(store, letters_of_tree(tree)))
    word, _, _ = walked(Code(tree), told, most)
    return tuple(told.texts) if word == "done" else None


def matching_of(store, other):
    """The ascending tuple of the pairs of matched reached cells of two stores with the same plan."""
    pairs = []
    for cells, others in zip(stretches_of(store), stretches_of(other)):
        pairs.extend(list(zip(cells, others)))
    return tuple(sorted(pairs))


def store_behind_run(tree, store):
    """The store behind a run of a program without loops, None if it fails; there may be any number of cells."""
    heap = Heap(store, letters_of_tree(tree))
    word, _, _ = walked(Code(tree), heap, MOST_STEPS)
    return store_behind(heap, store.letters) if word == "done" else None
