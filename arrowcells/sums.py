"""What is made of two sets of lengths, or of one and a number."""

from arrowcells.errors import InvalidNumber, TooMany
from arrowcells.kinds import is_whole
from arrowcells.lengths import MOST_START, MOST_STEP, made_lengths, need_lengths
from arrowcells.rounds import EMPTY, both_of, multiplied_of, parts_of, shifted_of, sums_of, union_of, without_of

MOST_FACTOR = 6
MOST_SHIFT = 400


def _made(rounded):
    """The Lengths of a triple; TooMany for a step or a start above its bound."""
    start, step, _ = rounded
    if step > MOST_STEP:
        raise TooMany(step)
    if start > MOST_START:
        raise TooMany(start)
    return made_lengths(rounded)


def union(lengths, other):
    """The set of the members of both sets."""
    need_lengths(lengths)
    need_lengths(other)
    return _made(union_of(lengths.rounded, other.rounded))


def both(lengths, other):
    """The set of the members that both sets have in common."""
    need_lengths(lengths)
    need_lengths(other)
    return _made(both_of(lengths.rounded, other.rounded))


def without(lengths, other):
    """The set of the members of the first set that are not in the other one."""
    need_lengths(lengths)
    need_lengths(other)
    return _made(without_of(lengths.rounded, other.rounded))


def sums(lengths, other):
    """The set of all sums of a member of the first set and one of the other one."""
    need_lengths(lengths)
    need_lengths(other)
    return _made(sums_of(lengths.rounded, other.rounded))


def parts(lengths, other):
    """The set of the numbers that, with some member of the other set, make a member of the first one."""
    need_lengths(lengths)
    need_lengths(other)
    return _made(parts_of(lengths.rounded, other.rounded))


def multiplied(lengths, by):
    """The set of the members times a number from 0 to 6."""
    need_lengths(lengths)
    if not is_whole(by, 0, MOST_FACTOR):
        raise InvalidNumber(by)
    return _made(multiplied_of(lengths.rounded, by))


def shifted(lengths, by):
    """The set of the members plus a number from -400 to 400, as far as that is not below 0."""
    need_lengths(lengths)
    if not is_whole(by, -MOST_SHIFT, MOST_SHIFT):
        raise InvalidNumber(by)
    return _made(shifted_of(lengths.rounded, by))


def lies_in(lengths, other):
    """Whether each member of the first set is in the other one."""
    need_lengths(lengths)
    need_lengths(other)
    return without_of(lengths.rounded, other.rounded) == EMPTY
