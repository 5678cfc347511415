"""Frames: masks of numbers that all repeat themselves from one start on, with one step.

Bit n of a mask tells whether the number n is in the set, for n below start + step.
"""

from arrowcells.lengths import made_lengths
from arrowcells.rounds import added_bits, all_bits, bits_below, settled

# The numbers left over when a chain has just got all its cells.
DONE = 1


class Frame:
    """A start and a step for masks, and what has been worked out for them."""

    def __init__(self, start, step):
        self.start = start
        self.step = step
        self.many = start + step
        self.whole = all_bits(self.many)
        self.positive = self.whole - 1
        self.empty = 0
        self.known_sums = {}
        self.known_falls = {}
        self.known_lengths = {}

    def mask_of(self, rounded):
        """The mask of a set that is a triple of rounds."""
        start, step, bits = rounded
        return bits_below(start, step, bits, self.many)

    def lengths_of(self, mask):
        """The Lengths of a mask."""
        if mask not in self.known_lengths:
            self.known_lengths[mask] = made_lengths(settled(self.start, self.step, mask))
        return self.known_lengths[mask]

    def both(self, mask, other):
        """The mask of the numbers that two masks have in common."""
        return mask & other

    def without(self, mask, other):
        """The mask of the numbers of the first mask that are not in the other one."""
        return mask & ~other

    def joint(self, mask, other):
        """The mask of the numbers of both masks."""
        return mask | other

    def sums(self, mask, other):
        """The mask of all sums of a number of the one and one of the other mask."""
        key = (mask, other)
        if key not in self.known_sums:
            self.known_sums[key] = added_bits(mask, other, self.many)
        return self.known_sums[key]

    def falls(self, mask):
        """The list of pairs (numbers from 1 on, what is left over of the mask when one of them is taken off)."""
        if mask not in self.known_falls:
            bits = bits_below(self.start, self.step, mask, 2 * self.many)
            found = {}
            for number in range(1, self.many):
                left = (bits >> number) & self.whole
                if left:
                    found[left] = found.get(left, 0) | (1 << number)
            self.known_falls[mask] = [(found[left], left) for left in found]
        return self.known_falls[mask]
