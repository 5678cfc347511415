"""The plans of a lot: how many there are of each size, and which ones, in their order."""

from arrowcells.blocks import blocks_in, plan_with, region_of
from arrowcells.errors import InvalidIndex, InvalidNumber, TooMany
from arrowcells.frames import Frame
from arrowcells.kinds import is_whole
from arrowcells.lots import need_lot
from arrowcells.regions import ALL, Regions
from arrowcells.rounds import numbers_in
from arrowcells.series import Series

MOST_SIZE = 400
MOST_LISTED_SIZE = 40
MOST_LISTED = 400
MOST_INDEX = 400


class Census:
    """The rows of the plans of a lot that have no number above a size.

    A row counts as often as the weight with the index of its number of lost cells tells.
    """

    def __init__(self, lot, size, weights):
        self.size = size
        self.weights = weights
        self.frame = Frame(size, 1)
        self.regions = Regions(self.frame)
        self.tops = {}
        self.known = {}
        blocks = blocks_in(lot)
        for shape in sorted(blocks):
            masks = [tuple([self.frame.mask_of(rounded) for rounded in block]) for block in blocks[shape]]
            self.tops[shape] = region_of(self.regions, masks)

    def total(self):
        """How often all rows of this size count."""
        return sum([self.counts(region)[self.size] for region in self.tops.values()])

    def counts(self, region):
        """The list of how often the rows of a region count, for each size."""
        if region not in self.known:
            totals = [0] * (self.size + 1)
            if region == ALL:
                totals[0] = 1
            for mask, behind in self.regions.edges[region]:
                more = self.counts(behind)
                for number in numbers_in(mask):
                    weight = self.weight_of(number, behind)
                    told = [total + weight * count for total, count in zip(totals[number:], more)]
                    totals = totals[:number] + told
            self.known[region] = totals
        return self.known[region]

    def weight_of(self, number, behind):
        """How often a number counts that has a region behind it: the last number of a row is that of the lost cells."""
        return self.weights[number] if behind == ALL else 1

    def firsts_of(self, region, size):
        """The ascending list of triples: a first number, the region behind it, and how often these rows count."""
        found = []
        for mask, behind in self.regions.edges[region]:
            for number in numbers_in(mask):
                if number <= size:
                    found.append((number, behind, self.weight_of(number, behind) * self.counts(behind)[size - number]))
        return sorted(found)

    def rows_in(self, region, size):
        """The ascending list of the rows of a region that have this size."""
        if region == ALL:
            return [()]
        return [(number,) + row for number, behind, many in self.firsts_of(region, size) if many
                for row in self.rows_in(behind, size - number)]


def census_of(lot, size):
    """The census in which each plan counts once."""
    return Census(lot, size, [1] * (size + 1))


def plans_number(lot, size):
    """How many plans of a lot have this size."""
    need_lot(lot)
    if not is_whole(size, 0, MOST_SIZE):
        raise InvalidNumber(size)
    return census_of(lot, size).total()


def plans_of_size(lot, size):
    """The ordered tuple of the plans of a lot that have this size."""
    need_lot(lot)
    if not is_whole(size, 0, MOST_LISTED_SIZE):
        raise InvalidNumber(size)
    census = census_of(lot, size)
    many = census.total()
    if many > MOST_LISTED:
        raise TooMany(many)
    plans = []
    for shape, region in census.tops.items():
        if census.counts(region)[size]:
            plans.extend([plan_with(shape, row) for row in census.rows_in(region, size)])
    return tuple(plans)


def plan_at(lot, index):
    """The plan with this index among all plans of a lot in their order."""
    need_lot(lot)
    if not is_whole(index, 0, MOST_INDEX):
        raise InvalidIndex(index)
    series = Series(blocks_in(lot))
    told = series.following()
    for _ in range(index):
        told = series.following()
    if told is None:
        raise InvalidIndex(index)
    shape, row = told
    return plan_with(shape, row)
