"""How many stores on some places have plans in a lot, and which ones they are, in their order."""

from math import perm

from arrowcells.errors import InvalidIndex, InvalidNumber, OtherNames, TooMany
from arrowcells.kinds import END, is_number, is_whole
from arrowcells.listed import Census
from arrowcells.lots import Lot, has_plan, need_lot
from arrowcells.plans import plan_of, stretches_of
from arrowcells.regions import ALL
from arrowcells.shapes import knot_words
from arrowcells.stores import Store, need_store

MOST_PLACES = 12


class Listing:
    """The stores on so many places whose plans are in a lot."""

    def __init__(self, lot, places):
        self.places = places
        # How many ways there are to give arrows to so many lost cells.
        self.loose = [1]
        for _ in range(places):
            self.loose.append(self.loose[-1] * (places + 1))
        weights = [perm(places, places - lost) * self.loose[lost] for lost in range(places + 1)]
        # Names and arrows lead to END or to cells here, so there are no gone knots.
        boxes = [box for box in lot.boxes if "!" not in box[0]]
        self.census = Census(Lot(lot.names, tuple(boxes)), places, weights)

    def total(self):
        """How many stores there are."""
        return self.census.total()

    def store_at(self, index):
        """The store with an index, which is below the number of stores."""
        for shape, region in self.census.tops.items():
            many = self.census.counts(region)[self.places]
            if index < many:
                return self.store_of_shape(shape, region, index)
            index -= many
        return None

    def store_of_shape(self, shape, region, index):
        """The store with an index among those whose plans have a shape and a row in its region."""
        row, size = (), self.places
        while region != ALL:
            index, number, region = self.step_down(region, size, index)
            row = row + (number,)
            size -= number
        taken, arrows = divmod(index, self.loose[row[-1]])
        return self.store_with(shape, row, self.places_at(taken, self.places - row[-1]), arrows)

    def step_down(self, region, size, index):
        """The index among the rows with the same first number, that number, and the region behind it."""
        for number, behind, many in self.census.firsts_of(region, size):
            if index < many:
                return index, number, behind
            index -= many
        return None

    def places_at(self, index, many):
        """The tuple with an index among all tuples of so many unlike places."""
        left, told = list(range(1, self.places + 1)), []
        for behind in range(many - 1, -1, -1):
            at, index = divmod(index, perm(len(left) - 1, behind))
            told.append(left.pop(at))
        return told

    def store_with(self, shape, row, reached, index):
        """The store of a shape and a row, with these reached cells, and the arrows of an index for the lost ones."""
        knots, stretches = knot_words(shape), _parted(reached, row[:-1])
        firsts, at = [], 0
        for _, sign, _ in knots:
            firsts.append(stretches[at][0] if sign == ">" else END)
            at += 1 if sign == ">" else 0
        cells = []
        for stretch, target in zip(stretches, [target for _, _, target in knots if target is not None]):
            cells.extend(list(zip(stretch, stretch[1:] + [firsts[target]])))
        lost = [place for place in range(self.places, 0, -1) if place not in reached]
        for place in lost:
            index, arrow = divmod(index, self.places + 1)
            cells.append((place, arrow))
        names = [(letter, place) for (letters, _, _), place in zip(knots, firsts) for letter in letters]
        return Store(tuple(sorted(names)), tuple(sorted(cells)))

    def index_of(self, store):
        """The index of a store that is one of those listed."""
        plan = plan_of(store)
        index = 0
        for shape, region in self.census.tops.items():
            if shape < plan.shape:
                index += self.census.counts(region)[self.places]
        region, size = self.census.tops[plan.shape], self.places
        for number in plan.lengths + (plan.lost,):
            behind = ALL
            for first, more, many in self.census.firsts_of(region, size):
                if first < number:
                    index += many
                elif first == number:
                    behind = more
            region = behind
            size -= number
        return index + self.index_in_plan(store)

    def index_in_plan(self, store):
        """The index of a store among those with the same plan."""
        reached = [cell for stretch in stretches_of(store) for cell in stretch]
        left, index = list(range(1, self.places + 1)), 0
        for place in reached:
            index = index * len(left) + left.index(place)
            left.remove(place)
        for place in left:
            index = index * (self.places + 1) + store.arrows[place]
        return index


def _parted(cells, lengths):
    """The list of the pieces of a list of cells that have these lengths."""
    pieces, at = [], 0
    for length in lengths:
        pieces.append(cells[at:at + length])
        at += length
    return pieces


def _need_places(value):
    """Raises InvalidNumber for no number of places."""
    if not is_whole(value, 0, MOST_PLACES):
        raise InvalidNumber(value)


def stores_number(lot, places):
    """How many stores on so many places have plans in a lot."""
    need_lot(lot)
    _need_places(places)
    return Listing(lot, places).total()


def store_at(lot, places, index):
    """The store with an index among the listed stores on so many places."""
    need_lot(lot)
    _need_places(places)
    if not is_number(index) or index < 0:
        raise InvalidIndex(index)
    listing = Listing(lot, places)
    if index >= listing.total():
        raise InvalidIndex(index)
    return listing.store_at(index)


def place_of(lot, store):
    """The index of a store among those listed on as many places as it has cells, None if it is none of them."""
    need_lot(lot)
    need_store(store)
    if lot.names != store.letters:
        raise OtherNames(lot.names, store.letters)
    many = len(store.cells)
    if many > MOST_PLACES:
        raise TooMany(many)
    places = list(store.arrows) + list(store.led_to)
    if not all([place <= many for place in places]) or not has_plan(lot, plan_of(store)):
        return None
    return Listing(lot, many).index_of(store)
