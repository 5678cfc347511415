"""Sketches: plans while a program runs on them.

A sketch is like a store, each cell of which stands for a piece of as many cells as its length tells.
A length is a pair of a number and an unknown, or None, and means their sum. A deed that needs a cell
cuts it off its piece first, and to do so it must know whether the length is 1. A sketch in which
that is not settled as yet becomes two. For each unknown it is kept from which number on it may be,
and whether it is just that number.
"""

from arrowcells.deeds import change, does_hold, needed
from arrowcells.kinds import END
from arrowcells.plans import drawn
from arrowcells.shapes import places_in
from arrowcells.ways import reached_from

ONE = (1, None)


class Sketch:
    """A sketch; what runs on it changes it."""

    def __init__(self, places, arrows, lengths, lows, settled):
        self.places = places
        self.arrows = arrows
        self.lengths = lengths
        self.lows = lows
        # The unknowns that are just their lows; no length has one of them any more.
        self.settled = settled
        self.fresh = max(list(arrows) + list(arrows.values()) + list(places.values())) + 1

    def twin(self):
        """A sketch that tells the same."""
        return Sketch(dict(self.places), dict(self.arrows), dict(self.lengths), list(self.lows), list(self.settled))

    def asked(self, test):
        """Whether a test holds."""
        return does_hold(test, self.places)

    def can(self, deed):
        """Whether a deed does not fail."""
        letter = needed(deed)
        return letter is None or self.places[letter] in self.arrows

    def act(self, deed):
        """Does a deed that does not fail, where all lengths are numbers."""
        self.ways_behind(deed)

    def ways_behind(self, deed):
        """The list of the sketches behind a deed that does not fail; this sketch itself is changed."""
        letter = needed(deed)
        sketches = [self] if letter is None else self.cut(self.places[letter])
        for sketch in sketches:
            change(sketch.places, sketch.arrows, deed, sketch.fresh)
            if deed[0] == "new":
                sketch.lengths[sketch.fresh] = ONE
                sketch.fresh += 1
        return sketches

    def cut(self, cell):
        """The list of the sketches in which a cell is cut off its piece; this sketch itself is changed."""
        number, unknown = self.lengths[cell]
        least = number if unknown is None else number + self.lows[unknown]
        if least == 1 and unknown is None:
            return [self]
        found = [self]
        if least == 1:
            short = self.twin()
            short.settled[unknown] = True
            short.lengths[cell] = ONE
            found.append(short)
            self.lows[unknown] += 1
        self.arrows[self.fresh] = self.arrows[cell]
        self.lengths[self.fresh] = (number - 1, unknown)
        self.arrows[cell] = self.fresh
        self.lengths[cell] = ONE
        self.fresh += 1
        return found

    def told(self, letters):
        """The shape for the names with these letters, and the list of the sums for its stretches and the lost cells.

        A sum is a pair of a number and the ascending tuple of the unknowns that are added to it.
        """
        names = [(letter, self.places[letter]) for letter in letters]
        shape, stretches = drawn(names, self.arrows)
        reached = reached_from(names, self.arrows)
        lost = [cell for cell in self.arrows if cell not in reached]
        return shape, [self.sum_of(cells) for cells in stretches] + [self.sum_of(lost)]

    def sum_of(self, cells):
        """The sum of the lengths of cells."""
        lengths = [self.lengths[cell] for cell in cells]
        unknowns = [unknown for _, unknown in lengths if unknown is not None]
        return sum([number for number, _ in lengths]), tuple(sorted(unknowns))


def sketched(knots, lengths, letters, bounds):
    """The sketch of a shape with these knots and lengths, where more letters lead to END."""
    cells = [END if sign == "." else number + 1 for number, (_, sign, _) in enumerate(knots)]
    arrows = {cell: cells[target] for cell, (_, _, target) in zip(cells, knots) if target is not None}
    places = {letter: END for letter in letters}
    places.update(places_in(knots))
    lows = [low for low, _ in bounds]
    settled = [is_settled for _, is_settled in bounds]
    return Sketch(places, arrows, dict(zip(list(arrows), lengths)), lows, settled)
