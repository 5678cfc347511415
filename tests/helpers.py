"""Values and checks that several tests share."""

import itertools

from arrowcells import errors
from arrowcells.lengths import Lengths
from arrowcells.lots import Lot
from arrowcells.plans import Plan
from arrowcells.shapes import lengths_number, shapes
from arrowcells.stores import Store


def nested(depth):
    """A tuple that is nested so deep."""
    value = ()
    for _ in range(depth - 1):
        value = (value,)
    return value


def nested_lists(depth):
    """A list that is nested so deep."""
    value = []
    for _ in range(depth - 1):
        value = [value]
    return value


class Thing:
    """An object of a class of its own."""


# Values that are nothing that the package takes, whatever is asked for.
ODD = [
    None, True, False, -1, 10 ** 40, -(10 ** 40), "", " ", "  ", "?", "\n", "xx", "ab cd", "None", "0" * 4000,
    "( " * 1000, "1" * 4000, "a\tb", "x=1|none", "+", ">", "X", b"", b"x", (), [], {}, set(), frozenset(), [1], ["x"],
    [("x", 1)], (1,), ("x",), ("x", 1), (("x",),), (None,), (True,), ((),), ([],), ({},), {"x": 1}, {1}, {(): ()},
    nested(14), nested_lists(14), (nested_lists(13),), range(3), len, str, Thing, Thing(), ArithmeticError("x"),
    Ellipsis, NotImplemented, iter(()), "x" * 4000, ("x=1 | none",), ["x"] * 30, (0, 1, 2), ("x", "y"), "xyzzy",
]
STORE = Store((("x", 1),), ((1, 0),))
PLAN = Plan("x>1 -.", (1,), 0)
LENGTHS = Lengths("1")
LOT = Lot("x", ())
OBJECTS = [STORE, PLAN, LENGTHS, LOT, Store, Plan, Lengths, Lot]


def odd_values(but=()):
    """The odd values and objects, without those of the told classes and those that are told."""
    kinds = tuple(kind for kind in but if isinstance(kind, type))
    told = [value for value in but if not isinstance(value, type)]
    for value in ODD + OBJECTS:
        if not isinstance(value, kinds) and not any(type(value) is type(one) and value == one for one in told):
            yield value


def raised(action, *args, **named):
    """The error that a call raises, as a pair of its class's name and its attributes."""
    try:
        action(*args, **named)
    except errors.ArrowError as error:
        return type(error).__name__, vars(error)
    return None


def is_same_value(value, other):
    """Whether two values are one, or equal and of one kind."""
    return value is other or (type(value) is type(other) and value == other)


class Asking:
    """Checks for the errors of calls, to stand beside TestCase."""

    def asks(self, name, given, action, *args, **named):
        """The call raises the error with this name, and `given` is this value."""
        self.tells(name, {"given": given}, action, *args, **named)

    def points(self, name, index, action, *args, **named):
        """The call raises the error with this name, and `index` is this value."""
        self.tells(name, {"index": index}, action, *args, **named)

    def tells(self, name, attributes, action, *args, **named):
        """The call raises the error with this name and these attributes."""
        found = raised(action, *args, **named)
        self.assertIsNotNone(found, (name, args, named))
        self.assertEqual(found[0], name, (args, named))
        self.assertEqual(list(found[1]), list(attributes), name)
        for word in attributes:
            self.assertTrue(is_same_value(found[1][word], attributes[word]), (name, found, attributes))

    def asks_for_all(self, name, values, action):
        """A call with each of the values raises the error with this name and that value."""
        for value in values:
            self.asks(name, value, action, value)


def some_texts(random, many):
    """So many lengths texts with small numbers and steps that go together well."""
    for _ in range(many):
        steps = random.choice([(2, 3, 6), (2, 4), (5,), (2,), (3, 4)])
        top = random.choice([2, 5, 12, 30])
        words = []
        for _ in range(random.choice([1, 1, 2, 3, 5])):
            behind = random.choice(["", "", "+", f"+{random.choice(steps)}", f"+{random.choice(steps)}"])
            words.append(f"{random.randint(0, top)}{behind}")
        yield " ".join(words)


def least_turn(members, high):
    """The least step and start of a set, of which all members below high are told."""
    step = 1
    while any((number in members) != (number + step in members) for number in range(high // 2, high - 60)):
        step += 1
    unlike = [number for number in range(high - 60) if (number in members) != (number + step in members)]
    return step, unlike[-1] + 1 if unlike else 0


class Measuring:
    """Checks of sets of lengths, to stand beside TestCase."""

    def check(self, lengths, members, high):
        """The Lengths is the set with these members below high, and tells all of it in the least way."""
        step, start = least_turn(members, high)
        self.assertEqual((lengths.step, lengths.start), (step, start), lengths.text)
        self.assertEqual([number for number in range(high) if number in lengths], sorted(members))
        self.assertEqual(lengths.below, tuple(number for number in range(start) if number in members))
        self.assertEqual(lengths.cycle, tuple(number for number in range(start, start + step) if number in members))
        self.assertEqual(lengths.least, min(members, default=None))
        self.assertIs(lengths.is_endless, any(number >= start for number in members))
        behind = "+" if step == 1 else f"+{step}"
        words = [str(number) for number in lengths.below] + [f"{number}{behind}" for number in lengths.cycle]
        self.assertEqual(lengths.text, " ".join(words) or "none")


def small_plans(names, high, lost):
    """All plans with these names, with lengths and numbers of lost cells up to these."""
    for shape in shapes(names):
        for lengths in itertools.product(range(1, high + 1), repeat=lengths_number(shape)):
            for many in range(lost + 1):
                yield Plan(shape, lengths, many)


def small_stores(names, places, last):
    """All stores with these names, whose cells are some of the places, all leading to places up to the last."""
    for many in range(len(places) + 1):
        for cells in itertools.combinations(places, many):
            for leads in itertools.product(range(last + 1), repeat=len(names)):
                for arrows in itertools.product(range(last + 1), repeat=many):
                    yield Store(tuple(zip(names, leads)), tuple(zip(cells, arrows)))


def some_stores(random, names, many):
    """So many stores with these names, with a few cells each, at random places."""
    for _ in range(many):
        places = random.sample(range(1, 10), random.randint(0, 6))
        leads = [(letter, random.choice(places + [0, random.randint(0, 9)])) for letter in names]
        cells = [(place, random.choice(places + [0, random.randint(0, 9)])) for place in sorted(places)]
        yield Store(tuple(leads), tuple(cells))


def parted(total, many):
    """All tuples of so many numbers from 1 on whose sum is not above the total."""
    if many == 0:
        return [()]
    return [(first,) + rest for first in range(1, total + 1) for rest in parted(total - first, many - 1)]


def place_of_plan(plan):
    """What tells the place of a plan in the order of [13]."""
    return plan.size, plan.shape, plan.lengths, plan.lost


def plans_up_to(names, size, told=None):
    """The ordered list of all plans with these names, of the told shapes, up to a size."""
    found = []
    for shape in shapes(names) if told is None else told:
        for lengths in parted(size, lengths_number(shape)):
            found.extend(Plan(shape, lengths, lost) for lost in range(size - sum(lengths) + 1))
    return sorted(found, key=place_of_plan)


def box(shape, *texts):
    """The box of a shape with the sets of the lengths texts, the last one for the lost cells."""
    sets = [Lengths(text) for text in texts]
    return shape, tuple(sets[:-1]), sets[-1]


def box_texts(lot):
    """The sorted list of texts for the boxes of a lot, whose sets are told in the least way."""
    for _, lengths, lost in lot.boxes:
        for told in lengths + (lost,):
            same = Lengths(told.text)
            assert (same, same.start, same.step) == (told, told.start, told.step), told.text
    return sorted(f"{shape} | {' , '.join(told.text for told in lengths)} | {lost.text}" for shape, lengths, lost in lot.boxes)
