"""To which plans a program without loops leads the plans of a lot, and for which plans it fails."""

from arrowcells.blocks import Blocks, blocks_in
from arrowcells.codes import Code
from arrowcells.courses import courses_of, first_bounds
from arrowcells.lots import need_lot
from arrowcells.programs import letters_of_tree, need_few_letters, straight_tree


def courses_on(tree, shapes):
    """The list of the pairs of a shape and a course of a program with this tree, for all told shapes."""
    code, letters = Code(tree), letters_of_tree(tree)
    return [(shape, course) for shape in shapes for course in courses_of(code, shape, letters, first_bounds(shape))]


def need_lot_and_program(lot, program):
    """The tree of a program without loops, behind the errors that a lot and such a program can give."""
    need_lot(lot)
    tree = straight_tree(program)
    need_few_letters(lot.names, tree)
    return tree


def image(lot, program):
    """The lot of the plans behind a program, for the plans of a lot for which it does not fail."""
    tree = need_lot_and_program(lot, program)
    blocks, own, found = Blocks(), blocks_in(lot), {}
    for shape, course in courses_on(tree, own):
        if course.word == "done":
            for block in blocks.meetings(course.limits, own[shape]):
                found.setdefault(course.shape, []).append(course.block_behind(blocks.field, block))
    return blocks.lot_with(lot.names, found)


def failing(lot, program):
    """The lot of the plans of a lot for which a program fails."""
    tree = need_lot_and_program(lot, program)
    blocks, own, found = Blocks(), blocks_in(lot), {}
    for shape, course in courses_on(tree, own):
        if course.word == "fault":
            found.setdefault(shape, []).extend(blocks.meetings(course.limits, own[shape]))
    return blocks.lot_with(lot.names, found)
