"""Promises that hold loops: whether they are broken, and how they are found."""

from arrowcells.blocks import Blocks, blocks_in, least_row, plan_with
from arrowcells.broken import least_broken
from arrowcells.codes import Code
from arrowcells.courses import courses_of, first_bounds
from arrowcells.deeds import does_hold
from arrowcells.errors import InvalidProgram
from arrowcells.images import courses_on
from arrowcells.inside import least_without
from arrowcells.lengths import made_lengths
from arrowcells.lots import Lot, need_lot
from arrowcells.lotsums import lot_where, need_same_names
from arrowcells.names import need_names
from arrowcells.plans import need_plan
from arrowcells.programs import is_program, letters_of_tree, need_few_letters, need_test, straight_tree
from arrowcells.rounds import numbers_from
from arrowcells.shapes import knot_words, places_in
from arrowcells.weights import need_weights, rise_on, row_not_falling, stretches_of_way, weight_in


def promise_broken(before, test, body, promise, after, weights):
    """The first of the words start, turn, end, fall that does not hold and a plan for it, None if all hold."""
    need_lot(before)
    told = need_test(test, before.names)
    tree = straight_tree(body)
    for lot in (promise, after):
        need_lot(lot)
        need_same_names(before.names, lot.names)
    if weights is not None:
        need_weights(weights, before.names)
    need_few_letters(before.names, tree)
    return first_broken(before, told, tree, promise, after, weights)


def first_broken(before, test, tree, promise, after, weights):
    """Like promise_broken, for the trees of a test and a body, behind all errors."""
    held, ended = lot_where(promise, test, True), lot_where(promise, test, False)
    plan = least_without(before, promise)
    if plan is not None:
        return "start", plan
    plan = least_broken(held, tree, promise)
    if plan is not None:
        return "turn", plan
    plan = least_without(ended, after)
    if plan is not None:
        return "end", plan
    plan = None if weights is None else _not_falling(held, tree, weights)
    return None if plan is None else ("fall", plan)


def _not_falling(lot, tree, weights):
    """A plan of a lot for which a body does not fail and the sum does not fall, None if there is none."""
    blocks, own, found = Blocks(), blocks_in(lot), []
    for shape, course in courses_on(tree, own):
        if course.word == "done":
            number, factors = rise_on(course, shape, weights)
            rows = [row_not_falling(block, number, factors) for block in blocks.meetings(course.limits, own[shape])]
            found.extend([(sum(row), shape, row) for row in rows if row is not None])
    if not found:
        return None
    _, shape, row = min(found)
    return plan_with(shape, row)


def wide(lot):
    """The wide lot of a lot."""
    need_lot(lot)
    return _wide_lot(lot.names, _lows_in(lot))


def _lows_in(lot):
    """The dict of the shapes of a lot and the rows of the least numbers in plans of these shapes."""
    found = {}
    for shape, blocks in blocks_in(lot).items():
        for block in blocks:
            found[shape] = _lower(found.get(shape), least_row(block))
    return found


def _lower(row, other):
    """The row of the lesser numbers of two rows, the first of which may be None."""
    return other if row is None else tuple([min(number, more) for number, more in zip(row, other)])


def _wide_lot(names, lows):
    """The lot of all plans whose numbers are not below those of the row of their shape."""
    boxes = []
    for shape in sorted(lows):
        sets = tuple([made_lengths(numbers_from(low)) for low in lows[shape]])
        boxes.append((shape, sets[:-1], sets[-1]))
    return Lot(names, tuple(boxes))


def found_promise(before, test, body):
    """The found promise of a lot, a test and a body, None if there is none."""
    need_lot(before)
    tested = need_test(test, before.names)
    tree = straight_tree(body)
    need_few_letters(before.names, tree)
    code, letters = Code(tree), letters_of_tree(tree)
    lows, courses = _lows_in(before), {}
    waiting = list(lows)
    while waiting:
        shape = waiting.pop()
        if not does_hold(tested, places_in(knot_words(shape))):
            continue
        if shape not in courses:
            courses[shape] = courses_of(code, shape, letters, first_bounds(shape))
        for course in [told for told in courses[shape] if told.meets(lows[shape])]:
            if course.word == "fault":
                return None
            # Only lesser numbers than before lead to new plans, so the order of the shapes makes no difference.
            lower = _lower(lows.get(course.shape), course.lows_behind(lows[shape]))
            if lower != lows.get(course.shape):
                lows[course.shape] = lower
                waiting.append(course.shape)
    return _wide_lot(before.names, lows)


def loop_text(names, test, body):
    """The program of the loop in whose turns each helper is first set to END."""
    need_names(names)
    need_test(test, names)
    tree = straight_tree(body)
    need_few_letters(names, tree)
    helpers = [f"{letter} = END; " for letter in letters_of_tree(tree) if letter not in names]
    text = "while " + test + " { " + "".join(helpers) + body + " }"
    if not is_program(text):
        raise InvalidProgram(text)
    return text


def way_cells(plan, letter):
    """How many cells the way of a name has."""
    need_plan(plan)
    return sum([plan.lengths[stretch] for stretch in stretches_of_way(plan.shape, letter)])


def weight_of(plan, weights):
    """The sum of the numbers of cells on the ways of names, each times the weight of its name."""
    need_plan(plan)
    need_weights(weights, plan.letters)
    return weight_in(plan, weights)
