"""Moves: what single deeds make of shapes, and of rows of numbers.

A row has one length for each stretch of a shape, and then the number of lost cells. A sum is a pair
of a number and of the indexes of the numbers of a row that are added to it.
"""

from arrowcells.deeds import does_hold, needed
from arrowcells.shapes import letters_in, need_knots, places_in, stretches_number
from arrowcells.sketches import ONE, sketched

AT_LEAST_TWO = (2, False)


class Ground:
    """What is asked of a shape on which deeds are done."""

    def __init__(self, shape):
        self.knots = need_knots(shape)
        self.letters = letters_in(self.knots)
        self.places = places_in(self.knots)
        self.stretches = {}
        stretch = 0
        for names, sign, _ in self.knots:
            if sign == ">":
                for letter in names:
                    self.stretches[letter] = stretch
                stretch += 1


class Move:
    """The shape behind a deed, and the sums for the row behind it.

    The limit is None, or the pair of an index and whether the number with this index is just 1; otherwise
    it is at least 2. The deed leads to this shape only where the limit holds.
    """

    def __init__(self, shape, sums, limit):
        self.shape = shape
        self.sums_behind = sums
        self.limit = limit


class Moves:
    """What has been worked out for shapes and deeds."""

    def __init__(self):
        self.grounds = {}
        self.known = {}

    def ground_of(self, shape):
        """The ground of a shape."""
        if shape not in self.grounds:
            self.grounds[shape] = Ground(shape)
        return self.grounds[shape]

    def has(self, shape, test):
        """Whether the test with this tree holds for a shape."""
        return does_hold(test, self.ground_of(shape).places)

    def move_of(self, shape, row, deed):
        """The move that a deed makes on a shape with a row, None if it fails."""
        letter = needed(deed)
        stretches = self.ground_of(shape).stretches
        if letter is not None and letter not in stretches:
            return None
        index = None if letter is None else stretches[letter]
        key = (shape, deed, index is not None and row[index] == 1)
        if key not in self.known:
            self.known[key] = self.made(shape, deed, index, key[2])
        return self.known[key]

    def made(self, shape, deed, index, is_one):
        """The move of a deed that needs the stretch with an index, whose length is 1 or not; None if it needs none."""
        many, one = self.done_on(shape, deed, None), self.done_on(shape, deed, index)
        # If both shapes are the same, no piece of the stretch is a stretch of its own behind the deed;
        # so the sums for a length from 2 on tell for the length 1, too.
        if many[0] == one[0]:
            return Move(many[0], many[1], None)
        told = one if is_one else many
        return Move(told[0], told[1], (index, is_one))

    def done_on(self, shape, deed, single):
        """The shape and the sums behind a deed, where all lengths are from 2 on but perhaps a single one."""
        ground = self.ground_of(shape)
        many = stretches_number(ground.knots)
        lengths = [ONE if number == single else (0, number) for number in range(many)]
        sketch = sketched(ground.knots, lengths, "", [AT_LEAST_TWO] * many)
        sketch.act(deed)
        behind, sums = sketch.told(ground.letters)
        number, indexes = sums[-1]
        return behind, sums[:-1] + [(number, indexes + (many,))]


def row_behind(sums, row):
    """The row that sums make of a row."""
    return tuple([value_of(told, row) for told in sums])


def value_of(told, row):
    """What a sum makes of a row."""
    number, indexes = told
    return number + sum([row[index] for index in indexes])


def joined_sums(sums, firsts):
    """The sums that tell at once what some first sums and then other ones make of a row."""
    found = []
    for number, indexes in sums:
        parts = [firsts[index] for index in indexes]
        told = [index for _, more in parts for index in more]
        found.append((number + sum([first for first, _ in parts]), tuple(told)))
    return found
