"""Blocks: tuples of sets, as triples of rounds, for the lengths of a shape and the number of lost cells.

They are the boxes of lots without their shapes. Lists of blocks are of one shape each, and stand for
all rows of numbers in some of them.
"""

from math import lcm

from arrowcells.fields import Field
from arrowcells.lengths import MOST_STEP
from arrowcells.lots import Lot
from arrowcells.plans import made_plan
from arrowcells.regions import ALL, NOTHING, Regions
from arrowcells.rounds import has_number, next_number


class Blocks:
    """What joins lists of blocks."""

    def __init__(self):
        self.field = Field()
        self.regions = Regions(self.field)

    def made_of(self, word, blocks, others):
        """The list of the blocks that a word, either, meet or minus, makes of two lists of blocks."""
        if _are_alike(blocks + others):
            region, other = region_of(self.regions, blocks), region_of(self.regions, others)
            return self.regions.boxes_in(self.regions.made_of(word, region, other))
        # A common form would part sets that need no parting, into ones with far greater steps.
        if word == "either":
            return _once(blocks + others)
        if word == "meet":
            return _once([both for block in blocks for both in self.meetings(block, others)])
        return _once([left for block in blocks for left in self.lefts(block, others)])

    def meetings(self, block, others):
        """The list of what a block has in common with each of the others, where that is not nothing."""
        found = []
        for other in others:
            both = tuple([self.field.both(rounded, more) for rounded, more in zip(block, other)])
            if self.field.empty not in both:
                found.append(both)
        return found

    def lefts(self, block, others):
        """The list of blocks that together hold what a block has, but none of the others."""
        meetings = self.meetings(block, others)
        if block in meetings:
            return []
        region = region_of(self.regions, [block])
        for both in meetings:
            region = self.regions.minus(region, region_of(self.regions, [both]))
        return self.regions.boxes_in(region)

    def lot_with(self, names, found):
        """The lot with the blocks of a dict of shapes and lists of blocks."""
        boxes = []
        for shape in sorted(found):
            for block in self.made_of("either", _once(found[shape]), []):
                sets = [self.field.lengths_of(rounded) for rounded in block]
                boxes.append((shape, tuple(sets[:-1]), sets[-1]))
        return Lot(names, tuple(boxes))


def _once(blocks):
    """The list of blocks, each one once."""
    return list({block: True for block in blocks})


def _are_alike(blocks):
    """Whether the sets of the blocks go together with small steps."""
    for sets in zip(*blocks):
        step = 1
        for rounded in sets:
            step = lcm(step, rounded[1])
        if step > MOST_STEP:
            return False
    return True


def region_of(regions, blocks):
    """The region of the rows of blocks, whose sets are masks for these regions."""
    groups = {}
    for block in blocks:
        groups.setdefault(block[0], {})[block[1:]] = True
    found = NOTHING
    for mask, group in groups.items():
        behind = ALL if () in group else region_of(regions, list(group))
        found = regions.either(found, regions.made([(mask, behind)]))
    return found


def blocks_in(lot):
    """The dict of the shapes of a lot and the lists of their blocks."""
    found = {}
    for shape, lengths, lost in lot.boxes:
        found.setdefault(shape, []).append(tuple([told.rounded for told in lengths + (lost,)]))
    return found


def has_row(blocks, row):
    """Whether a row lies in some of the blocks."""
    for block in blocks:
        if all([has_number(rounded, number) for rounded, number in zip(block, row)]):
            return True
    return False


def least_row(block):
    """The row of the least numbers of a block."""
    return tuple([next_number(rounded, -1) for rounded in block])


def plan_with(shape, row):
    """The plan of a shape and a row of its lengths and its number of lost cells."""
    return made_plan(shape, row[:-1], row[-1])


def least_of(found):
    """The least plan of a dict of shapes and lists of blocks, None if there is none."""
    rows = [(shape, least_row(block)) for shape, blocks in found.items() for block in blocks]
    if not rows:
        return None
    _, shape, row = min([(sum(row), shape, row) for shape, row in rows])
    return plan_with(shape, row)
