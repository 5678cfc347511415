"""Benches: stores that are changed while wishes hold, with undoing and trials."""

from arrowcells.errors import Broken, Failed, InvalidIndex, NothingToUndo
from arrowcells.fits import keeps, keeps_tree
from arrowcells.kinds import is_whole
from arrowcells.programs import need_few_letters, program_text, straight_tree
from arrowcells.runs import MOST_STEPS, done, need_few_cells, run_of_tree
from arrowcells.sayings import saying_tree
from arrowcells.stores import need_store


class Bench:
    """A store that is changed, with wishes that it must keep, and what can be undone."""

    def __init__(self, store):
        need_store(store)
        self.start = store
        self.now = store
        self.wishes = ()
        self.log = ()
        # The pairs of the store and the wishes before each change.
        self.past = ()

    def __len__(self):
        return len(self.log)

    def __bool__(self):
        return True

    def do(self, deed):
        """Does a deed."""
        store = done(self.now, deed)
        self.change_to(store, f"do {program_text((deed,))}")

    def run(self, program):
        """Does a program without loops, as a whole or not at all."""
        tree = straight_tree(program)
        need_few_letters(self.now.letters, tree)
        need_few_cells(self.now)
        told = run_of_tree(tree, self.now, MOST_STEPS)
        if told.word == "fault":
            raise Failed(told.deed)
        self.change_to(told.store, f"run {program}")

    def wish(self, saying):
        """Takes a saying as a new wish, behind the others."""
        if not keeps(self.now, saying):
            raise Broken(len(self.wishes))
        self.take(self.now, self.wishes + (saying,), f"wish {saying}")

    def lift(self, index):
        """Takes a wish away."""
        if not is_whole(index, 0, len(self.wishes) - 1):
            raise InvalidIndex(index)
        self.take(self.now, self.wishes[:index] + self.wishes[index + 1:], f"lift {index}")

    def undo(self):
        """Takes back the last change that has not been taken back."""
        if self.past == ():
            raise NothingToUndo()
        self.now, self.wishes = self.past[-1]
        self.past = self.past[:-1]
        self.log = self.log[:-1]

    def trial(self):
        """A trial for a `with` statement, which leads the bench back if its block ends with an exception."""
        return Trial(self)

    def tried(self, action):
        """What a function returns for the bench, within a trial."""
        with self.trial() as bench:
            return action(bench)

    def change_to(self, store, line):
        """Takes a store behind a change, if all wishes hold for it."""
        for index, saying in enumerate(self.wishes):
            if not keeps_tree(store, saying_tree(saying)):
                raise Broken(index)
        self.take(store, self.wishes, line)

    def take(self, store, wishes, line):
        """Takes what stands behind a change, and puts down its line."""
        self.past = self.past + ((self.now, self.wishes),)
        self.log = self.log + (line,)
        self.now = store
        self.wishes = wishes


class Moment:
    """What a bench has at some moment, and the moment of the trial around it."""

    def __init__(self, bench, outer):
        self.now = bench.now
        self.wishes = bench.wishes
        self.log = bench.log
        self.past = bench.past
        self.outer = outer


class Trial:
    """A `with` statement over a bench; one trial may also be begun again within itself."""

    def __init__(self, bench):
        self.bench = bench
        self.moment = None

    def __enter__(self):
        self.moment = Moment(self.bench, self.moment)
        return self.bench

    def __exit__(self, kind, value, trace):
        bench = self.bench
        if kind is not None:
            bench.now = self.moment.now
            bench.wishes = self.moment.wishes
            bench.log = self.moment.log
            bench.past = self.moment.past
        self.moment = self.moment.outer
