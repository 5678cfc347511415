"""Lots: finite unions of boxes of plans with the same names."""

from arrowcells.errors import InvalidBoxes, NotALot
from arrowcells.kinds import is_tuple_of
from arrowcells.lengths import Lengths
from arrowcells.names import need_few_names, need_names
from arrowcells.plans import need_plan, plan_of
from arrowcells.sayings import need_shown, saying_tree
from arrowcells.shapes import knots_in, letters_in, need_knots, shapes, stretches_number
from arrowcells.spreads import Spread
from arrowcells.stores import need_store


class Lot:
    """A lot; it never changes."""

    def __init__(self, names, boxes):
        need_names(names)
        if not isinstance(boxes, tuple):
            raise InvalidBoxes(None)
        for index, box in enumerate(boxes):
            if not _is_box(box, names):
                raise InvalidBoxes(index)
        self.names = names
        self.boxes = boxes


def _is_box(value, names):
    """Whether a value is a box over these names."""
    if not is_tuple_of(value, 3):
        return False
    shape, lengths, lost = value
    knots = knots_in(shape)
    if knots is None or letters_in(knots) != names or not is_tuple_of(lengths, stretches_number(knots)):
        return False
    for told in lengths:
        if not isinstance(told, Lengths) or told.least is None or 0 in told:
            return False
    return isinstance(lost, Lengths) and lost.least is not None


def need_lot(value):
    """Raises NotALot for what is no Lot."""
    if not isinstance(value, Lot):
        raise NotALot(value)


def need_told(trees, names):
    """Raises UnknownName or TooMany, if the lots over names are not told for the sayings with these trees."""
    for tree in trees:
        need_shown(tree, names)
    need_few_names(names)


def lot_of(saying, names):
    """The lot of the plans of all stores with these names that keep a saying."""
    tree = saying_tree(saying)
    need_names(names)
    need_told([tree], names)
    return lot_of_tree(tree, names)


def lot_of_tree(tree, names):
    """The lot of the saying with this tree, over one or two names that have all its shown letters."""
    spread = Spread(tree)
    boxes = []
    for shape in shapes(names):
        boxes.extend([(shape, lengths, lost) for lengths, lost in spread.boxes_of(need_knots(shape))])
    return Lot(names, tuple(boxes))


def every(names):
    """The lot of all plans with these names."""
    positive, whole = Lengths("1+"), Lengths("0+")
    boxes = [(shape, (positive,) * stretches_number(need_knots(shape)), whole) for shape in shapes(names)]
    return Lot(names, tuple(boxes))


def has_plan(lot, plan):
    """Whether a plan is in a lot."""
    need_lot(lot)
    need_plan(plan)
    return _has(lot, plan)


def _has(lot, plan):
    """Whether a plan is in a lot; that of other names is not."""
    for shape, lengths, lost in lot.boxes:
        if shape == plan.shape and plan.lost in lost and all(
                [number in told for number, told in zip(plan.lengths, lengths)]):
            return True
    return False


def has_store(lot, store):
    """Whether the plan of a store is in a lot."""
    need_lot(lot)
    need_store(store)
    return _has(lot, plan_of(store))
