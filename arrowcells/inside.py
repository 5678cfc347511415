"""What lots tell: whether they are empty, lie one inside another, and which plan is their least one."""

from arrowcells.blocks import Blocks, blocks_in, has_row, least_of, plan_with
from arrowcells.lots import lot_of_tree, need_lot, need_told
from arrowcells.lotsums import joined_blocks, need_lots
from arrowcells.names import need_names
from arrowcells.plans import store_of
from arrowcells.sayings import saying_tree
from arrowcells.series import Series

MOST_TRIED = 60


def is_empty(lot):
    """Whether a lot has no plan."""
    need_lot(lot)
    return lot.boxes == ()


def lies_inside(lot, other):
    """Whether each plan of the first lot is in the other one."""
    need_lots(lot, other)
    return least_without(lot, other) is None


def is_same(lot, other):
    """Whether two lots have the same plans."""
    return lies_inside(lot, other) and lies_inside(other, lot)


def least_plan(lot):
    """The least plan of a lot, None if it is empty."""
    need_lot(lot)
    return least_of(blocks_in(lot))


def least_without(lot, other):
    """The least plan of a lot that is not in another lot with the same names, None if there is none."""
    series, others = Series(blocks_in(lot)), blocks_in(other)
    # Mostly one of the first plans tells, even where the steps of the lots do not go together.
    for _ in range(MOST_TRIED):
        told = series.following()
        if told is None:
            return None
        shape, row = told
        if not has_row(others.get(shape, []), row):
            return plan_with(shape, row)
    return least_of(joined_blocks(Blocks(), "minus", lot, other))


def parting_plan(lot, other):
    """The least plan that is in just one of two lots, None if they are the same."""
    need_lots(lot, other)
    plan, other_plan = least_without(lot, other), least_without(other, lot)
    if plan is None or other_plan is None:
        return other_plan if plan is None else plan
    return plan if plan.comes_before(other_plan) else other_plan


def shapes_in(lot):
    """The ascending tuple of the shapes of the plans of a lot."""
    need_lot(lot)
    return tuple(sorted({shape: True for shape, _, _ in lot.boxes}))


def _told_lots(saying, other, names):
    """The lots of two sayings over the same names."""
    trees = [saying_tree(saying), saying_tree(other)]
    need_names(names)
    need_told(trees, names)
    return lot_of_tree(trees[0], names), lot_of_tree(trees[1], names)


def follows(saying, other, names):
    """Whether each store with these names that keeps the first saying keeps the other one."""
    lot, other_lot = _told_lots(saying, other, names)
    return lies_inside(lot, other_lot)


def parting_store(saying, other, names):
    """The canonical store of the least plan that keeps just the first of two sayings, None if there is none."""
    lot, other_lot = _told_lots(saying, other, names)
    plan = least_without(lot, other_lot)
    return None if plan is None else store_of(plan)
