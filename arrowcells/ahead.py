"""Which plans a program without loops leads into a lot."""

from arrowcells.blocks import Blocks, blocks_in
from arrowcells.images import courses_on
from arrowcells.lots import lot_of_tree, need_lot, need_told
from arrowcells.names import need_few_names, need_names
from arrowcells.programs import need_few_letters, straight_tree
from arrowcells.sayings import saying_tree
from arrowcells.shapes import shapes


def lot_before(tree, lot, told_shapes):
    """The lot of all plans with the told shapes that a program with this tree leads, without failing, into a lot."""
    blocks, goals, found = Blocks(), blocks_in(lot), {}
    for shape, course in courses_on(tree, told_shapes):
        for goal in goals.get(course.shape, []):
            found.setdefault(shape, []).extend(course.blocks_before(blocks.field, goal))
    return blocks.lot_with(lot.names, found)


def ahead(program, lot):
    """The lot of all plans with the names of a lot that a program leads, without failing, into the lot."""
    tree = straight_tree(program)
    need_lot(lot)
    need_few_names(lot.names)
    need_few_letters(lot.names, tree)
    return lot_before(tree, lot, shapes(lot.names))


def weakest(program, saying, names):
    """The lot of all plans that a program leads, without failing, to stores that keep a saying."""
    tree = straight_tree(program)
    told = saying_tree(saying)
    need_names(names)
    need_told([told], names)
    need_few_letters(names, tree)
    return lot_before(tree, lot_of_tree(told, names), shapes(names))
