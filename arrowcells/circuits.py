"""Circuits: many turns of a loop with the same course, told without doing them all.

While the course stays the same, each number of a row goes into the same number in each turn, or into
the lost cells. So some numbers are handed round, and the others are soon the same in each turn: behind
some first turns, a fixed number of turns adds a fixed number to each.
"""

from math import lcm

from arrowcells.moves import joined_sums, row_behind, value_of


class Turn:
    """What the moves of one turn make of a row, and the limits within which its course stays the same."""

    def __init__(self, moves, many):
        self.sums_behind = [(0, (index,)) for index in range(many)]
        # Pairs of a sum and whether it must be just 1; otherwise it must be at least 2.
        self.limits = []
        for move in moves:
            if move.limit is not None:
                index, is_one = move.limit
                self.limits.append((self.sums_behind[index], is_one))
            self.sums_behind = joined_sums(move.sums_behind, self.sums_behind)

    def is_let(self, row):
        """Whether a turn from a row has this course."""
        values = [(value_of(told, row), is_one) for told, is_one in self.limits]
        return all([value == 1 if is_one else value >= 2 for value, is_one in values])

    def turns_round(self):
        """After how many turns each number that is handed round is at its index again."""
        goals = {index: goal for goal, (_, indexes) in enumerate(self.sums_behind) for index in indexes}
        period = 1
        for first in goals:
            at, many = goals[first], 1
            while at in goals and at != first and many < len(goals):
                at = goals[at]
                many += 1
            if at == first:
                period = lcm(period, many)
        return period


class Circuit:
    """The rows behind as many turns with the same course as one likes, from a row on."""

    def __init__(self, turn, row):
        self.turn = turn
        # So many turns lead each number to its end that is not handed round.
        self.first = len(row)
        self.period = turn.turns_round()
        self.rows = [row]
        for _ in range(self.first + self.period):
            self.rows.append(row_behind(turn.sums_behind, self.rows[-1]))
        self.growth = tuple([last - first for first, last in zip(self.rows[self.first], self.rows[-1])])

    def row_at(self, many):
        """The row behind so many turns."""
        if many < self.first:
            return self.rows[many]
        times, rest = divmod(many - self.first, self.period)
        return tuple([number + times * more for number, more in zip(self.rows[self.first + rest], self.growth)])

    def turns_let(self):
        """How many turns have the course, one behind the other; None if all turns have it."""
        for many, row in enumerate(self.rows):
            if not self.turn.is_let(row):
                return many
        # What must be just 1 was so at the beginning and at the end of a period, so that it does not grow or fall.
        ends = [self.end_of(told, many) for told, is_one in self.turn.limits if not is_one
                for many in range(self.first, self.first + self.period)]
        return min([end for end in ends if end is not None], default=None)

    def end_of(self, told, many):
        """The first of the turns a period apart, from one on, in which a sum is below 2; None if there is none."""
        growth = value_of((0, told[1]), self.growth)
        if growth >= 0:
            return None
        times = (value_of(told, self.rows[many]) - 2) // -growth + 1
        return many + times * self.period
