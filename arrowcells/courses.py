"""Courses: all that a program without loops can do to the plans of one shape.

A deed looks at lengths only by asking whether they are 1. So the rows of the lengths of a shape part
into finitely many boxes, in each of which a run does the same. Each new length is the sum of a number
and of old lengths, each of which goes into one new length alone, or into the lost cells.
"""

from arrowcells.rounds import number_alone, numbers_from, shifted_of
from arrowcells.shapes import letters_in, need_knots, stretches_number
from arrowcells.sketches import sketched


class Course:
    """What a run does to the plans of a shape whose lengths lie within some bounds."""

    def __init__(self, sketch, word, letters):
        self.word = word
        # For each length the least number that it may be, and whether it is just that one.
        self.bounds = list(zip(sketch.lows, sketch.settled))
        limits = [number_alone(low) if is_settled else numbers_from(low) for low, is_settled in self.bounds]
        self.limits = tuple(limits + [numbers_from(0)])
        self.shape, self.sums_behind = None, None
        if word == "done":
            self.shape, sums = sketch.told(letters)
            number, unknowns = sums[-1]
            self.sums_behind = sums[:-1] + [(number, unknowns + (len(limits),))]

    def does_leak(self):
        """Whether more cells are lost behind the run than before it."""
        return self.word == "done" and self.sums_behind[-1] != (0, (len(self.bounds),))

    def meets(self, lows):
        """Whether some rows that are not below the lows lie within the bounds."""
        return all([lows[number] <= low for number, (low, is_settled) in enumerate(self.bounds) if is_settled])

    def lows_behind(self, lows):
        """The least numbers to which the run leads the rows within the bounds that are not below the lows."""
        firsts = [max(low, bound) for low, (bound, _) in zip(lows, self.bounds)] + [lows[-1]]
        return tuple([number + sum([firsts[unknown] for unknown in unknowns]) for number, unknowns in self.sums_behind])

    def block_behind(self, field, block):
        """The block to which the run leads a block that lies within the bounds."""
        return tuple([field.sums(tuple([block[unknown] for unknown in unknowns]), number)
                      for number, unknowns in self.sums_behind])

    def blocks_before(self, field, block):
        """The list of the blocks, within the bounds, of all rows that the run leads into a block."""
        found = [self.limits]
        for (number, unknowns), goal in zip(self.sums_behind, block):
            limits = tuple([self.limits[unknown] for unknown in unknowns])
            fits = field.fits(limits, shifted_of(goal, -number))
            found = [_replaced(before, unknowns, sets) for before in found for sets in fits]
        return found


def _replaced(block, unknowns, sets):
    """The block with other sets for some numbers."""
    more = dict(zip(unknowns, sets))
    return tuple([more.get(number, rounded) for number, rounded in enumerate(block)])


def first_bounds(shape):
    """The bounds of all lengths of a shape."""
    return [(1, False)] * stretches_number(need_knots(shape))


def courses_of(code, shape, letters, bounds):
    """The list of the courses of a code, which has these letters, on a shape with lengths within bounds."""
    knots = need_knots(shape)
    lengths = [(low, None) if is_settled else (0, number) for number, (low, is_settled) in enumerate(bounds)]
    found = []
    waiting = [(sketched(knots, lengths, letters, bounds), code.entry)]
    while waiting:
        sketch, at = waiting.pop()
        if at is None:
            found.append(Course(sketch, "done", letters_in(knots)))
            continue
        row = code.rows[at]
        if row[0] == "ask":
            waiting.append((sketch, row[2] if sketch.asked(row[1]) else row[3]))
        elif sketch.can(row[1]):
            waiting.extend([(behind, row[3]) for behind in sketch.ways_behind(row[1])])
        else:
            found.append(Course(sketch, "fault", letters_in(knots)))
    return found
