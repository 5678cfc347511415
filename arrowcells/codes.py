"""Codes: programs as rows, each of which tells which row comes next, so that steps are easy to do one by one.

A row is ("do", deed, number of the deed, next row) or ("ask", test, row if it holds, row if not).
"""

from arrowcells.programs import deeds_in, is_deed


class Code:
    """The rows of the tree of a program, and the number of the first one; None stands for the end."""

    def __init__(self, tree):
        self.rows = []
        self.entry = self.placed(tree, None, 0)

    def placed(self, tree, behind, first):
        """The number of the first row for a tree, whose deeds are numbered from the first number on."""
        lasts = []
        for statement in tree:
            first += len(deeds_in((statement,)))
            lasts.append(first)
        # Each row must know the next one, so the last statement is placed first.
        for statement, last in reversed(list(zip(tree, lasts))):
            behind = self.placed_one(statement, behind, last)
        return behind

    def placed_one(self, statement, behind, last):
        """The number of the first row for a statement; last is the number behind that of its last deed."""
        at = len(self.rows)
        if is_deed(statement):
            self.rows.append(("do", statement, last - 1, behind))
            return at
        self.rows.append(())
        many = len(deeds_in((statement,)))
        body = self.placed(statement[2], at if statement[0] == "while" else behind, last - many)
        other = behind
        if statement[0] == "if":
            other = self.placed(statement[3], behind, last - len(deeds_in(statement[3])))
        self.rows[at] = ("ask", statement[1], body, other)
        return at


def walked(code, heap, most):
    """The word, the number of steps and the number of the failing deed of a run on a heap."""
    at, steps = code.entry, 0
    while at is not None:
        if steps == most:
            return "long", steps, None
        row = code.rows[at]
        if not can_do(row, heap):
            return "fault", steps, row[2]
        at = do_row(row, heap)
        steps += 1
    return "done", steps, None


def can_do(row, heap):
    """Whether a row does not fail on a heap."""
    return row[0] == "ask" or heap.can(row[1])


def do_row(row, heap):
    """Does a row that does not fail, and tells the number of the row that comes next."""
    if row[0] == "ask":
        return row[2] if heap.asked(row[1]) else row[3]
    heap.act(row[1])
    return row[3]
