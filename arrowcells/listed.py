"""The plans of a lot: how many there are of each size, and which ones, in their order."""

from arrowcells.blocks import blocks_in, plan_with, region_of
from arrowcells.errors import InvalidIndex, InvalidNumber, TooMany
from arrowcells.frames import Frame
from arrowcells.kinds import is_whole
from arrowcells.lots import need_lot
from arrowcells.regions import ALL, Regions
from arrowcells.rounds import numbers_in
from arrowcells.series import Series

MOST_SIZE = 400
MOST_LISTED_SIZE = 40
MOST_LISTED = 400
MOST_INDEX = 400


class Census:
    """The rows of the plans of a lot that have no number above a size."""

    def __init__(self, lot, size):
        self.size = size
        self.frame = Frame(size, 1)
        self.regions = Regions(self.frame)
        self.tops = {}
        self.known = {}
        blocks = blocks_in(lot)
        for shape in sorted(blocks):
            masks = [tuple([self.frame.mask_of(rounded) for rounded in block]) for block in blocks[shape]]
            self.tops[shape] = region_of(self.regions, masks)

    def total(self):
        """How many rows there are of this size."""
        return sum([self.counts(region)[self.size] for region in self.tops.values()])

    def counts(self, region):
        """The list of how many rows of a region there are of each size."""
        if region not in self.known:
            totals = [0] * (self.size + 1)
            if region == ALL:
                totals[0] = 1
            for mask, behind in self.regions.edges[region]:
                more = self.counts(behind)
                for number in numbers_in(mask):
                    told = [total + count for total, count in zip(totals[number:], more)]
                    totals = totals[:number] + told
            self.known[region] = totals
        return self.known[region]

    def rows_in(self, region, size):
        """The ascending list of the rows of a region that have this size."""
        if region == ALL:
            return [()]
        firsts = []
        for mask, behind in self.regions.edges[region]:
            firsts.extend([(number, behind) for number in numbers_in(mask)
                           if number <= size and self.counts(behind)[size - number]])
        return [(number,) + row for number, behind in sorted(firsts) for row in self.rows_in(behind, size - number)]


def plans_number(lot, size):
    """How many plans of a lot have this size."""
    need_lot(lot)
    if not is_whole(size, 0, MOST_SIZE):
        raise InvalidNumber(size)
    return Census(lot, size).total()


def plans_of_size(lot, size):
    """The ordered tuple of the plans of a lot that have this size."""
    need_lot(lot)
    if not is_whole(size, 0, MOST_LISTED_SIZE):
        raise InvalidNumber(size)
    census = Census(lot, size)
    many = census.total()
    if many > MOST_LISTED:
        raise TooMany(many)
    plans = []
    for shape, region in census.tops.items():
        if census.counts(region)[size]:
            plans.extend([plan_with(shape, row) for row in census.rows_in(region, size)])
    return tuple(plans)


def plan_at(lot, index):
    """The plan with this index among all plans of a lot in their order."""
    need_lot(lot)
    if not is_whole(index, 0, MOST_INDEX):
        raise InvalidIndex(index)
    series = Series(blocks_in(lot))
    told = series.following()
    for _ in range(index):
        told = series.following()
    if told is None:
        raise InvalidIndex(index)
    shape, row = told
    return plan_with(shape, row)
