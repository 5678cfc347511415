"""The least plans for which a program without loops does not do what it should."""

from arrowcells.ahead import lot_before
from arrowcells.blocks import Blocks, blocks_in, least_of
from arrowcells.images import courses_on, need_lot_and_program
from arrowcells.inside import least_without, shapes_in
from arrowcells.lots import lot_of_tree, need_lot, need_told
from arrowcells.lotsums import need_same_names
from arrowcells.names import need_names
from arrowcells.programs import need_few_letters, straight_tree
from arrowcells.sayings import saying_tree


def broken(before, program, after):
    """The least plan of a lot for which a program fails or does not lead into the other lot, None if there is none."""
    need_lot(before)
    tree = straight_tree(program)
    need_lot(after)
    need_same_names(before.names, after.names)
    need_few_letters(before.names, tree)
    return least_broken(before, tree, after)


def least_broken(before, tree, after):
    """Like broken, for the tree of a program, behind all errors."""
    return least_without(before, lot_before(tree, after, shapes_in(before)))


def is_kept(names, saying, program, other):
    """Whether each store that keeps the first saying is led, without failing, to one that keeps the other one."""
    need_names(names)
    before = saying_tree(saying)
    tree = straight_tree(program)
    after = saying_tree(other)
    need_told([before, after], names)
    need_few_letters(names, tree)
    return least_broken(lot_of_tree(before, names), tree, lot_of_tree(after, names)) is None


def leaking(lot, program):
    """The least plan of a lot for which a program does not fail and loses cells, None if there is none."""
    return least_leaking(lot, need_lot_and_program(lot, program))


def least_leaking(lot, tree):
    """Like leaking, for the tree of a program, behind all errors."""
    blocks, own, found = Blocks(), blocks_in(lot), {}
    for shape, course in courses_on(tree, own):
        if course.does_leak():
            found.setdefault(shape, []).extend(blocks.meetings(course.limits, own[shape]))
    return least_of(found)
