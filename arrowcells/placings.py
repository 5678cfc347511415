"""The search for places and lengths with which a picture fits a store."""

from arrowcells.kinds import END
from arrowcells.lengths import Lengths
from arrowcells.ways import reached_cells


def chain_of(store, first, second, many):
    """The tuple of the cells of the chain of so many cells between two places, None if there is none."""
    cells, place = {}, first
    for _ in range(many):
        if place not in store.arrows or place in cells:
            return None
        cells[place] = True
        place = store.arrows[place]
    if place != second or (place in cells and place != first):
        return None
    return tuple(cells)


def items_hold(store, items, places):
    """Whether all items but the chains hold, as far as their letters have places."""
    lost = len(store.cells) - len(reached_cells(store))
    for item in items:
        if item[0] == "lost" and lost not in Lengths(item[1]):
            return False
    return items_hold_there(store, items, places)


def items_hold_there(store, items, places):
    """Whether the items that compare places or tell gone ones hold, as far as their letters have places."""
    for item in items:
        placed = all([word in places for word in item[1:3]])
        if item[0] == "=" and placed and places[item[1]] != places[item[2]]:
            return False
        if item[0] == "!=" and placed and places[item[1]] == places[item[2]]:
            return False
        if item[0] == "gone" and placed and not _is_nothing(store, places[item[1]]):
            return False
    return True


def _is_nothing(store, place):
    """Whether a place is neither END nor a cell."""
    return place != END and place not in store.arrows


class Path:
    """The cells from a place on, along the arrows, until they end or come to one again."""

    def __init__(self, store, first, numbers):
        self.cells = []
        self.many_to = {}
        # The bits of the first k cells of the path, for each k.
        self.used = [0]
        place = first
        while place in store.arrows and place not in self.many_to:
            self.many_to[place] = len(self.cells)
            self.cells.append(place)
            self.used.append(self.used[-1] | (1 << numbers[place]))
            place = store.arrows[place]
        self.behind = place

    def lengths_to(self, place):
        """The list of the lengths, 0 left out, that a chain along the path to a place can have."""
        if place == self.behind and self.many_to.get(place, 0) == 0:
            return [len(self.cells)] if self.cells else []
        many = self.many_to.get(place, 0)
        return [many] if many else []

    def all_ends(self):
        """The list of all pairs of a length and the place to which a chain of this length leads."""
        ends = list(enumerate(self.cells))
        if self.many_to.get(self.behind, 0) == 0:
            ends.append((len(self.cells), self.behind))
        return ends


class Search:
    """A search for a placing of one picture in one store."""

    def __init__(self, store, tree):
        _, self.hidden, self.rows = tree
        self.store = store
        self.has_rest = ("rest",) in self.rows
        self.chains = [item for item in self.rows if item[0] == "chain"]
        self.lengths = [Lengths(item[3]) for item in self.chains]
        self.numbers = {place: number for number, (place, _) in enumerate(store.cells)}
        self.paths = {}

    def found(self):
        """Any placing, None if there is none."""
        # Chains have reached cells alone, so a lost cell needs a rest.
        if not self.has_rest and len(reached_cells(self.store)) < len(self.store.cells):
            return None
        places = self.first_places()
        if not items_hold(self.store, self.rows, places):
            return None
        return self.with_chains(places, {}, 0)

    def first_places(self):
        """The dict of the places of the letters that are shown, and of END."""
        places = {**self.store.places, "END": END}
        for letter in self.hidden:
            places.pop(letter, None)
        return places

    def with_chains(self, places, lengths, used):
        """Any placing that goes on from places, lengths of some chains, and the bits of their cells."""
        if len(lengths) == len(self.chains):
            if not self.has_rest and used != (1 << len(self.store.cells)) - 1:
                return None
            told = [lengths[number] for number in range(len(self.chains))]
            return tuple([places[letter] for letter in self.hidden]), tuple(told)
        for more_places, more_lengths, more_used in self.steps_from(places, lengths, used):
            answer = self.with_chains(more_places, more_lengths, more_used)
            if answer is not None:
                return answer
        return None

    def steps_from(self, places, lengths, used):
        """The list of all triples of places, lengths and bits in which one chain more is placed."""
        number = self.next_chain(places, lengths)
        _, first, second, _ = self.chains[number]
        path = self.path_from(places[first])
        found = []
        for many, place in self.choices(places, number, path):
            more = {**places, second: place}
            if used & path.used[many] == 0 and items_hold_there(self.store, self.rows, more):
                found.append((more, {**lengths, number: many}, used | path.used[many]))
        return found

    def all_used(self):
        """The dict of the bits of the cells of all placings with which the picture fits, as if a rest stood in it."""
        first = self.first_places()
        if not items_hold(self.store, self.rows, first):
            return {}
        steps = [(first, {}, 0)]
        for _ in self.chains:
            steps = [step for places, lengths, used in steps for step in self.steps_from(places, lengths, used)]
        return {bits: True for _, _, bits in steps}

    def next_chain(self, places, lengths):
        """The number of a chain that is still to be placed and whose first letter has a place."""
        ready = [number for number, item in enumerate(self.chains) if number not in lengths and item[1] in places]
        for number in ready:
            if self.chains[number][2] in places:
                return number
        return ready[0]

    def choices(self, places, number, path):
        """The list of the pairs of a length that a chain can have and the place to which it leads then."""
        _, first, second, _ = self.chains[number]
        if second in places:
            place = places[second]
            many = ([0] if place == places[first] else []) + path.lengths_to(place)
            ends = [(length, place) for length in many]
        else:
            ends = path.all_ends()
        return [(length, place) for length, place in ends if length in self.lengths[number]]

    def path_from(self, place):
        """The path from a place."""
        if place not in self.paths:
            self.paths[place] = Path(self.store, place, self.numbers)
        return self.paths[place]
