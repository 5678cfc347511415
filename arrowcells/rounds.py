"""Sets of numbers that come round, as triples (start, step, bits) for the work within the package.

Bit n of bits tells whether n is in the set, for n below start + step; from start on the set repeats
itself with the step. Start and step are the least ones, so that equal sets are equal triples.
"""

from math import lcm

EMPTY = (0, 1, 0)


def all_bits(many):
    """The bits of all numbers below many."""
    return (1 << many) - 1


def repeated(cycle, step, many):
    """The lowest bits, so many, of a cycle of so many bits as step says, again and again."""
    bits, told = cycle, step
    while told < many:
        bits = bits | (bits << told)
        told = 2 * told
    return bits & all_bits(many)


def bits_below(start, step, bits, many):
    """The bits, so many, of a set that repeats itself from start on."""
    if many <= start + step:
        return bits & all_bits(many)
    return (bits & all_bits(start)) | (repeated(bits >> start, step, many - start) << start)


def settled(start, step, bits):
    """The triple, with the least step and start, of a set that repeats itself from start on."""
    cycle = bits >> start
    least, rest, prime = step, step, 2
    # All steps that are possible are multiples of the least one, so it is come to prime by prime.
    while rest > 1:
        if rest % prime != 0:
            prime += 1
            continue
        rest = rest // prime
        shorter = least // prime
        if (cycle ^ (cycle >> shorter)) & all_bits(step - shorter) == 0:
            least = shorter
    unlike = (bits ^ (bits >> least)) & all_bits(start)
    start = unlike.bit_length()
    return start, least, bits & all_bits(start + least)


def numbers_in(bits):
    """The ascending list of the numbers whose bits are set."""
    return [number for number in range(bits.bit_length()) if bits >> number & 1]


def has_number(rounded, number):
    """Whether a number from 0 on is in the set."""
    start, step, bits = rounded
    if number >= start:
        number = start + (number - start) % step
    return bits >> number & 1 == 1


def next_number(rounded, number):
    """The least member above a number from 0 on, None if there is none."""
    start, step, _ = rounded
    for more in range(number + 1, max(number, start) + step + 1):
        if has_number(rounded, more):
            return more
    return None


def number_alone(number):
    """The set of a single number."""
    return number + 1, 1, 1 << number


def numbers_from(number):
    """The set of all numbers from a number on."""
    return number, 1, 1 << number


def side_by_side(rounded, other):
    """A start and a step that suit both sets, and the bits of both below their sum."""
    start = max(rounded[0], other[0])
    step = lcm(rounded[1], other[1])
    return start, step, _bits_of(rounded, start + step), _bits_of(other, start + step)


def _bits_of(rounded, many):
    """The bits, so many, of a set."""
    return bits_below(rounded[0], rounded[1], rounded[2], many)


def union_of(rounded, other):
    """The set of the members of the one and of the other set."""
    start, step, bits, others = side_by_side(rounded, other)
    return settled(start, step, bits | others)


def both_of(rounded, other):
    """The set of the members that two sets have in common."""
    start, step, bits, others = side_by_side(rounded, other)
    return settled(start, step, bits & others)


def without_of(rounded, other):
    """The set of the members of the first set that are not in the other one."""
    start, step, bits, others = side_by_side(rounded, other)
    return settled(start, step, bits & ~others)


def sums_of(rounded, other):
    """The set of all sums of a member of the one set and a member of the other one."""
    step = lcm(rounded[1], other[1])
    # Two cycles fill all sums that they ever reach within one common step behind their first turns.
    start = rounded[0] + rounded[1] + other[0] + other[1] + step
    bits = added_bits(_bits_of(rounded, start + step), _bits_of(other, start + step), start + step)
    return settled(start, step, bits)


def added_bits(bits, others, many):
    """The bits, so many, of all sums of a number of the one and one of the other bits."""
    if bits.bit_length() < others.bit_length():
        bits, others = others, bits
    total = 0
    for number in numbers_in(others):
        total = total | (bits << number)
    return total & all_bits(many)


def parts_of(rounded, other):
    """The set of the numbers that, with some member of the other set added, are in the first one."""
    start, step, _ = rounded
    highest = max(start, other[0]) + lcm(step, other[1])
    bits = _bits_of(rounded, highest + start + step)
    total = 0
    for number in numbers_in(_bits_of(other, highest)):
        total = total | (bits >> number)
    return settled(start, step, total & all_bits(start + step))


def falls_of(rounded):
    """The list of pairs (numbers, what is left over of the set when one of these numbers is taken off)."""
    start, step, _ = rounded
    found = {}
    for number in range(start + step):
        left = shifted_of(rounded, -number)
        if left != EMPTY:
            found[left] = found.get(left, 0) | (1 << number)
    return [(settled(start, step, found[left]), left) for left in found]


def multiplied_of(rounded, by):
    """The set of the members times a number from 0 on."""
    start, step, bits = rounded
    if by == 0:
        return (1, 1, 1) if bits else EMPTY
    total = 0
    for number in numbers_in(bits):
        total = total | (1 << (number * by))
    return settled(start * by, step * by, total)


def shifted_of(rounded, by):
    """The set of the members plus a number, as far as that is not below 0."""
    start, step, bits = rounded
    if by >= 0:
        return settled(start + by, step, bits << by)
    behind = max(start, -by)
    return settled(behind + by, step, _bits_of(rounded, behind + step) >> -by)
