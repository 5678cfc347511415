"""What is made of two lots, or of a lot and a test."""

from arrowcells.blocks import Blocks, blocks_in
from arrowcells.deeds import does_hold
from arrowcells.errors import OtherNames
from arrowcells.lots import Lot, need_lot
from arrowcells.programs import need_test
from arrowcells.shapes import knot_words, places_in


def need_lots(lot, other):
    """Raises NotALot for what is no Lot, and OtherNames for two lots with unlike names."""
    need_lot(lot)
    need_lot(other)
    need_same_names(lot.names, other.names)


def need_same_names(names, other):
    """Raises OtherNames for unlike names."""
    if names != other:
        raise OtherNames(names, other)


def _joined(word, lot, other):
    """The lot that a word makes of two lots."""
    need_lots(lot, other)
    blocks = Blocks()
    return blocks.lot_with(lot.names, joined_blocks(blocks, word, lot, other))


def joined_blocks(blocks, word, lot, other):
    """The dict of shapes and lists of blocks that a word makes of two lots."""
    own, others, found = blocks_in(lot), blocks_in(other), {}
    for shape in {**own, **others}:
        found[shape] = blocks.made_of(word, own.get(shape, []), others.get(shape, []))
    return found


def either(lot, other):
    """The lot of the plans that are in one of two lots."""
    return _joined("either", lot, other)


def meet(lot, other):
    """The lot of the plans that are in both lots."""
    return _joined("meet", lot, other)


def minus(lot, other):
    """The lot of the plans of the first lot that are not in the other one."""
    return _joined("minus", lot, other)


def passing(lot, test):
    """The lot of the plans of a lot for which a test holds."""
    need_lot(lot)
    return lot_where(lot, need_test(test, lot.names), True)


def lot_where(lot, tree, is_held):
    """The lot of the plans of a lot for which the test with this tree holds, or for which it does not."""
    boxes = [box for box in lot.boxes if does_hold(tree, places_in(knot_words(box[0]))) == is_held]
    return Lot(lot.names, tuple(boxes))
