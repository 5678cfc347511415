"""Weights: sums of how many cells lie on the ways of names, each cell as often as the name weighs."""

from arrowcells.blocks import least_row
from arrowcells.errors import InvalidWeights
from arrowcells.kinds import is_letter, is_tuple_of, is_whole
from arrowcells.rounds import next_number
from arrowcells.shapes import knot_words, stretches_number, stretches_on_way

MOST_WEIGHT = 9


def need_weights(value, names):
    """Raises InvalidWeights for what are no weights of names."""
    if not isinstance(value, tuple):
        raise InvalidWeights(None)
    wrong = wrong_weight(value, names)
    if wrong is not None:
        raise InvalidWeights(wrong)


def wrong_weight(weights, names):
    """The index of the first element of a tuple that is wrong as a weight, None if there is none."""
    before = ""
    for index, pair in enumerate(weights):
        if not is_tuple_of(pair, 2) or not is_letter(pair[0]) or not is_whole(pair[1], 0, MOST_WEIGHT):
            return index
        if pair[0] not in names or pair[0] <= before:
            return index
        before = pair[0]
    return None


def stretches_of_way(shape, letter):
    """The list of the stretches on the way of a name, counted among the stretches alone."""
    cells = [number for number, (_, sign, _) in enumerate(knot_words(shape)) if sign == ">"]
    return [cells.index(knot) for knot in stretches_on_way(shape, letter)]


def factors_of(shape, weights):
    """The list that tells for each stretch of a shape how often its cells count."""
    factors = [0] * stretches_number(knot_words(shape))
    for letter, weight in weights:
        for stretch in stretches_of_way(shape, letter):
            factors[stretch] += weight
    return factors


def weight_in(plan, weights):
    """The sum of the numbers of cells on the ways of names in a plan, each times the weight of its name."""
    return sum([factor * length for factor, length in zip(factors_of(plan.shape, weights), plan.lengths)])


def rise_on(course, shape, weights):
    """By how much the sum rises on a course from a shape: a number, and the list of the factors of a row before it."""
    factors = [-factor for factor in factors_of(shape, weights)] + [0]
    number = 0
    for factor, (more, indexes) in zip(factors_of(course.shape, weights), course.sums_behind):
        number += factor * more
        for index in indexes:
            factors[index] += factor
    return number, factors


def row_not_falling(block, number, factors):
    """A row of a block for which a number and its own numbers times the factors are not below 0; None if there is none.

    It has few cells, but others may have still fewer.
    """
    row = list(least_row(block))
    total = number + sum([factor * told for factor, told in zip(factors, row)])
    for minus, index in sorted([(-factor, index) for index, factor in enumerate(factors) if factor > 0]):
        if total < 0:
            raised = _raised(block[index], row[index] - total // -minus)
            total += -minus * (raised - row[index])
            row[index] = raised
    return tuple(row) if total >= 0 else None


def _raised(rounded, wanted):
    """The least member from a number on; the greatest one, if all are below it."""
    found = next_number(rounded, wanted - 1)
    return rounded[2].bit_length() - 1 if found is None else found
