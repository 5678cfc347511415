"""Far walks: runs of plain programs on plans, however many steps these runs have."""

from arrowcells.circuits import Circuit, Turn
from arrowcells.errors import Restless
from arrowcells.moves import Moves, row_behind
from arrowcells.programs import deeds_in, loops_in

MOST_CHANGES = 60


class FarWalk:
    """The far run of the tree of a plain program from a shape and a row on; all letters are in the shape."""

    def __init__(self, tree, shape, row):
        self.moves = Moves()
        self.shape = shape
        self.row = row
        self.word, self.steps, self.deed = "done", 0, None
        self.turns = [0] * len(loops_in(tree))
        # The course of the turn that goes on, and the moves that have been made in it.
        self.course = []
        self.moved = []
        self.through(tree, 0, 0)

    def through(self, tree, deed, loop):
        """Does the statements of a tree, whose deeds and loops are numbered from these numbers on."""
        for statement in tree:
            if self.word != "done":
                return
            if statement[0] == "while":
                self.go_round(statement, deed, loop)
            elif statement[0] == "if":
                self.choose(statement, deed, loop)
            else:
                self.act(statement, deed)
            deed += len(deeds_in((statement,)))
            loop += len(loops_in((statement,)))

    def act(self, statement, deed):
        """Does a deed."""
        move = self.moves.move_of(self.shape, self.row, statement)
        if move is None:
            self.word, self.deed = "fault", deed
            return
        self.steps += 1
        self.shape = move.shape
        self.row = row_behind(move.sums_behind, self.row)
        self.moved.append(move)
        self.course.append((statement, self.shape))

    def asked(self, test):
        """Looks at a test, and tells whether it holds."""
        self.steps += 1
        self.course.append((test, self.shape))
        return self.moves.has(self.shape, test)

    def choose(self, statement, deed, loop):
        """Does an `if`."""
        _, test, tree, other = statement
        if self.asked(test):
            self.through(tree, deed, loop)
        else:
            self.through(other, deed + len(deeds_in(tree)), loop + len(loops_in(tree)))

    def go_round(self, statement, deed, loop):
        """Does a loop, whose body has no loops."""
        _, test, body = statement
        before, changes = None, 0
        while self.word == "done":
            self.course, self.moved = [], []
            shape, steps = self.shape, self.steps
            if not self.asked(test):
                return
            self.turns[loop] += 1
            self.through(body, deed, 0)
            if self.word != "done":
                return
            if before is not None and self.course != before:
                changes += 1
            if changes > MOST_CHANGES:
                raise Restless(loop)
            before = self.course
            if self.shape == shape:
                self.skip(loop, self.steps - steps)

    def skip(self, loop, steps):
        """Does at once all turns that follow with the course of the last turn, which had so many steps."""
        circuit = Circuit(Turn(self.moved, len(self.row)), self.row)
        many = circuit.turns_let()
        if many is None:
            self.word = "endless"
            return
        self.row = circuit.row_at(many)
        self.steps += many * steps
        self.turns[loop] += many
