"""Fields: they work with sets that are triples of rounds, and keep what they have worked out."""

from arrowcells.lengths import made_lengths
from arrowcells.rounds import EMPTY, both_of, falls_of, has_number, number_alone, shifted_of, sums_of, union_of
from arrowcells.rounds import without_of


class Field:
    """What has been worked out for some sets."""

    def __init__(self):
        self.empty = EMPTY
        self.known_both = {}
        self.known_without = {}
        self.known_joint = {}
        self.known_sums = {}
        self.known_falls = {}
        self.known_lengths = {}

    def both(self, rounded, other):
        """The set of the members that two sets have in common."""
        if rounded == other:
            return rounded
        key = (rounded, other)
        if key not in self.known_both:
            self.known_both[key] = both_of(rounded, other)
        return self.known_both[key]

    def without(self, rounded, other):
        """The set of the members of the first set that are not in the other one."""
        key = (rounded, other)
        if key not in self.known_without:
            self.known_without[key] = without_of(rounded, other)
        return self.known_without[key]

    def joint(self, rounded, other):
        """The set of the members of both sets."""
        key = (rounded, other)
        if key not in self.known_joint:
            self.known_joint[key] = union_of(rounded, other)
        return self.known_joint[key]

    def sums(self, sets, number):
        """The set of all sums of a member of each of the sets and a number, which are not below 0."""
        key = (sets, number)
        if key not in self.known_sums:
            total = number_alone(0)
            for rounded in sets:
                total = sums_of(total, rounded)
            self.known_sums[key] = shifted_of(total, number)
        return self.known_sums[key]

    def fits(self, limits, wanted):
        """The list of the tuples of sets within their limits that hold all rows whose sum is in the wanted set."""
        if limits == ():
            return [()] if has_number(wanted, 0) else []
        falls = [(wanted, number_alone(0))] if len(limits) == 1 else self.falls(wanted)
        found = []
        for numbers, left in falls:
            first = self.both(limits[0], numbers)
            if first != self.empty:
                found.extend([(first,) + behind for behind in self.fits(limits[1:], left)])
        return found

    def falls(self, rounded):
        """The list of pairs (numbers, what is left over of the set when one of these numbers is taken off)."""
        if rounded not in self.known_falls:
            self.known_falls[rounded] = falls_of(rounded)
        return self.known_falls[rounded]

    def lengths_of(self, rounded):
        """The Lengths of a set."""
        if rounded not in self.known_lengths:
            self.known_lengths[rounded] = made_lengths(rounded)
        return self.known_lengths[rounded]
