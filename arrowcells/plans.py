"""Plans: a shape, the lengths of its stretches, and a number of lost cells."""

from arrowcells.errors import InvalidLengths, InvalidNumber, InvalidShape, InvalidText, NotAPlan, TooMany
from arrowcells.kinds import END, is_tuple_of, is_whole, number_in
from arrowcells.shapes import knot_words, knots_in, letters_in, shape_text, stretches_number
from arrowcells.stores import MOST_CELLS, Store, need_store
from arrowcells.ways import reached_from

MOST_LENGTH = 10 ** 30


class Plan:
    """A plan; it never changes."""

    def __init__(self, shape, lengths, lost):
        knots = knots_in(shape)
        if knots is None:
            raise InvalidShape(shape)
        if not _are_plan_lengths(lengths, stretches_number(knots)):
            raise InvalidLengths(lengths)
        if not is_whole(lost, 0, MOST_LENGTH):
            raise InvalidNumber(lost)
        self.take(shape, lengths, lost, letters_in(knots))

    def __eq__(self, other):
        if not isinstance(other, Plan):
            return False
        return self.shape == other.shape and self.lengths == other.lengths and self.lost == other.lost

    def take(self, shape, lengths, lost, letters):
        """Sets all attributes; only for the making of a new object."""
        self.shape = shape
        self.lengths = lengths
        self.lost = lost
        self.size = sum(lengths) + lost
        self.letters = letters
        words = " ".join([str(number) for number in lengths])
        self.text = f"{shape} | {words or 'none'} | {lost}"

    def comes_before(self, other):
        """Whether this plan stands before the other one in the order of plans."""
        need_plan(other)
        own_place = (self.size, self.shape, self.lengths, self.lost)
        return own_place < (other.size, other.shape, other.lengths, other.lost)


def _are_plan_lengths(value, many):
    """Whether a value is a tuple of so many lengths."""
    return is_tuple_of(value, many) and all([is_whole(number, 1, MOST_LENGTH) for number in value])


def need_plan(value):
    """Raises NotAPlan for what is no Plan."""
    if not isinstance(value, Plan):
        raise NotAPlan(value)


def made_plan(shape, lengths, lost):
    """The plan of a shape, lengths and a number of lost cells, however great these are."""
    made = Plan("x.", (), 0)
    made.take(shape, lengths, lost, letters_in(knot_words(shape)))
    return made


def plan_of(store):
    """The plan of a store."""
    need_store(store)
    shape, stretches = drawn(store.names, store.arrows)
    lengths = tuple([len(cells) for cells in stretches])
    return Plan(shape, lengths, len(store.cells) - sum(lengths))


def drawn(names, arrows):
    """The shape that pairs (letter, place) and arrows have, and the tuple of its stretches."""
    places = _knot_places(names, arrows)
    stretches = _stretches(arrows, places)
    numbers = {place: number for number, place in enumerate(places)}
    letters = {place: "" for place in places}
    for letter, place in names:
        letters[place] += letter
    lasts = {cells[0]: cells[-1] for cells in stretches}
    knots = []
    for place in places:
        if place in lasts:
            knots.append((letters[place], ">", numbers[arrows[lasts[place]]]))
        else:
            knots.append((letters[place], "." if place == END else "!", None))
    return shape_text(knots), stretches


def knots_of(store):
    """The tuple of the places of the knots of a store, in their order."""
    need_store(store)
    return tuple(_knot_places(store.names, store.arrows))


def _knot_places(names, arrows):
    """The list of the places of the knots, in the order in which the ways first come to them."""
    named = {place: True for _, place in names}
    arrows_to = {}
    for cell in reached_from(names, arrows):
        to = arrows[cell]
        arrows_to[to] = arrows_to.get(to, 0) + 1
    passed, knots = {}, []
    for _, start in names:
        place = start
        while place is not None and place not in passed:
            passed[place] = True
            if place not in arrows or place in named or arrows_to.get(place, 0) >= 2:
                knots.append(place)
            place = arrows.get(place)
    return knots


def stretches_of(store):
    """The tuple of the tuples of the cells of the stretches, in the order of their knots."""
    need_store(store)
    return _stretches(store.arrows, _knot_places(store.names, store.arrows))


def _stretches(arrows, knots):
    """The tuple of the stretches that begin at those of the told knots that are cells."""
    is_knot = {place: True for place in knots}
    stretches = []
    for knot in knots:
        if knot in arrows:
            cells = [knot]
            while arrows[cells[-1]] not in is_knot:
                cells.append(arrows[cells[-1]])
            stretches.append(tuple(cells))
    return tuple(stretches)


def store_of(plan):
    """The canonical store of a plan."""
    need_plan(plan)
    if plan.size > MOST_CELLS:
        raise TooMany(plan.size)
    knots = knot_words(plan.shape)
    places = _canonical_places(knots, plan)
    lengths = list(plan.lengths)
    cells = []
    for _, sign, target in knots:
        if sign == ">":
            first = len(cells) + 1
            last = first + lengths.pop(0) - 1
            cells.extend([(cell, cell + 1) for cell in range(first, last)])
            cells.append((last, places[target]))
    cells.extend([(cell, END) for cell in range(len(cells) + 1, plan.size + 1)])
    leads = [(letter, places[number]) for number, (names, _, _) in enumerate(knots) for letter in names]
    return Store(tuple(sorted(leads)), tuple(cells))


def _canonical_places(knots, plan):
    """The places of the knots in the canonical store of a plan, in their order."""
    lengths = list(plan.lengths)
    next_cell, next_gone = 1, plan.size + 1
    places = []
    for _, sign, _ in knots:
        if sign == ">":
            places.append(next_cell)
            next_cell += lengths.pop(0)
        elif sign == "!":
            places.append(next_gone)
            next_gone += 1
        else:
            places.append(END)
    return places


def are_alike(store, other):
    """Whether two stores have the same plan."""
    need_store(store)
    need_store(other)
    return plan_of(store) == plan_of(other)


def tidy(store):
    """The canonical store of the plan of a store."""
    return store_of(plan_of(store))


def read_plan(text):
    """The plan with this text."""
    thirds = text.split(" | ") if isinstance(text, str) else []
    knots = knots_in(thirds[0]) if len(thirds) == 3 else None
    if knots is None:
        raise InvalidText(text)
    words = thirds[1].split(" ") if thirds[1] != "none" else []
    lengths = tuple([number_in(word, MOST_LENGTH) for word in words])
    lost = number_in(thirds[2], MOST_LENGTH)
    if not _are_plan_lengths(lengths, stretches_number(knots)) or lost is None:
        raise InvalidText(text)
    return Plan(thirds[0], lengths, lost)
