"""Whether two programs without loops leave the same behind stores."""

from arrowcells.blocks import Blocks, blocks_in, least_row, plan_with
from arrowcells.codes import Code, walked
from arrowcells.courses import courses_of, first_bounds
from arrowcells.lots import need_lot
from arrowcells.plans import Plan, store_of
from arrowcells.programs import letters_of_tree, need_few_letters, straight_tree
from arrowcells.remains import Remains
from arrowcells.runs import MOST_STEPS, Heap, need_few_cells
from arrowcells.stores import need_store


def leave_same(program, other, store):
    """Whether two programs leave the same behind a store."""
    trees = [straight_tree(program), straight_tree(other)]
    need_store(store)
    for tree in trees:
        need_few_letters(store.letters, tree)
        need_few_cells(store)
    return left_behind(trees[0], store) == left_behind(trees[1], store)


def left_behind(tree, store):
    """What a program with this tree leaves behind a store, None if it fails."""
    heap = Heap(store, letters_of_tree(tree))
    word, _, _ = walked(Code(tree), heap, MOST_STEPS)
    return Remains(heap, store.letters).told() if word == "done" else None


def differing(program, other, lot):
    """The least plan of a lot behind the stores of which two programs do not leave the same, None if there is none."""
    trees = [straight_tree(program), straight_tree(other)]
    need_lot(lot)
    for tree in trees:
        need_few_letters(lot.names, tree)
    return least_differing(trees, lot)


def least_differing(trees, lot):
    """Like differing, for the trees of two programs, behind all errors."""
    blocks, courses, firsts = Blocks(), [], []
    for shape, own in blocks_in(lot).items():
        for course in _common_courses(trees, shape):
            rows = [least_row(block) for block in blocks.meetings(course.limits, own)]
            if rows:
                size, row = min([(sum(row), row) for row in rows])
                firsts.append((size, shape, row, len(courses)))
                courses.append(course)
    for _, shape, row, number in sorted(firsts):
        # No run comes to the end of a piece whose length is not settled, so the shortest one tells for all.
        store = store_of(Plan(shape, tuple([low for low, _ in courses[number].bounds]), 0))
        if left_behind(trees[0], store) != left_behind(trees[1], store):
            return plan_with(shape, row)
    return None


def _common_courses(trees, shape):
    """The list of the courses of the second program on a shape, within the bounds of each course of the first one."""
    codes = [Code(tree) for tree in trees]
    letters = [letters_of_tree(tree) for tree in trees]
    found = []
    for course in courses_of(codes[0], shape, letters[0], first_bounds(shape)):
        found.extend(courses_of(codes[1], shape, letters[1], course.bounds))
    return found
