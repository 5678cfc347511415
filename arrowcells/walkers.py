"""Walkers on tracks: where they stand, and when two of them meet."""

from math import gcd

from arrowcells.errors import InvalidNumber
from arrowcells.kinds import is_whole
from arrowcells.ways import tail_and_ring, way

MOST_NUMBER = 10 ** 30
MOST_MISSED = 1000


def _need_number(value, low, high):
    """Raises InvalidNumber for no whole number from low to high."""
    if not is_whole(value, low, high):
        raise InvalidNumber(value)


def _need_track(tail, ring):
    """Raises InvalidNumber for what are no numbers of stops of a tail and a ring."""
    _need_number(tail, 0, MOST_NUMBER)
    _need_number(ring, 1, MOST_NUMBER)


def _need_walkers(slow, fast, lead, high):
    """Raises InvalidNumber for what are no numbers of steps of two walkers, or above a bound."""
    _need_number(slow, 0, high)
    _need_number(fast, slow, high)
    _need_number(lead, 0, high)


def stop_at(tail, ring, steps):
    """The stop after so many steps from the stop 0."""
    _need_track(tail, ring)
    _need_number(steps, 0, MOST_NUMBER)
    return _stop(tail, ring, steps)


def _stop(tail, ring, steps):
    """The stop after so many steps from the stop 0, however many these are."""
    return steps if steps < tail else tail + (steps - tail) % ring


def are_numbers(tail, ring, slow, fast, lead):
    """Whether values, whatever they are, are the numbers of a track and two walkers."""
    if not is_whole(tail, 0, MOST_NUMBER) or not is_whole(ring, 1, MOST_NUMBER) or not is_whole(slow, 0, MOST_NUMBER):
        return False
    return is_whole(fast, slow, MOST_NUMBER) and is_whole(lead, 0, MOST_NUMBER)


def do_meet(tail, ring, slow, fast, lead, turn):
    """Whether both walkers stand at the same stop at the end of a turn."""
    return _stop(tail, ring, slow * turn) == _stop(tail, ring, lead + fast * turn)


def meet(tail, ring, slow, fast, lead):
    """The least turn in which both walkers meet, None if they never do."""
    _need_track(tail, ring)
    _need_walkers(slow, fast, lead, MOST_NUMBER)
    return _least_turn(tail, ring, slow, fast, lead)


def _least_turn(tail, ring, slow, fast, lead):
    """The least turn in which both walkers meet, None if they never do."""
    ahead = fast - slow
    if lead == 0 and ahead == 0:
        return 1
    part = gcd(ahead, ring)
    if lead % part != 0 or (slow == 0 and tail > 0):
        return None
    # The turns that may do are those of one remainder, from the one on in which the first walker is on the ring.
    step = ring // part
    turn = -(lead // part) * _inverse(ahead // part, step) % step
    first = -(-tail // slow) if tail > 0 else 1
    return first + (turn - first) % step


def _inverse(number, ring):
    """A number that, times the first one, leaves what 1 leaves when divided by the ring.

    The first number and the ring have no common divisor but 1.
    """
    first, second = ring, number % ring
    told, more = 0, 1
    while second > 0:
        times = first // second
        first, second = second, first - times * second
        told, more = more, told - times * more
    return told


def meets_always(slow, fast, lead):
    """Whether both walkers meet on every track."""
    _need_walkers(slow, fast, lead, MOST_NUMBER)
    return _meets_always(slow, fast, lead)


def _meets_always(slow, fast, lead):
    """Whether both walkers meet on every track."""
    ahead = fast - slow
    if lead == 0 and ahead == 0:
        return True
    return slow > 0 and ahead > 0 and lead % ahead == 0


def missed_track(slow, fast, lead):
    """The pair (tail, ring) of the least track on which both walkers never meet, None if there is none."""
    _need_walkers(slow, fast, lead, MOST_MISSED)
    if _meets_always(slow, fast, lead):
        return None
    # Whether they meet depends on the tail only by whether there is one.
    stops = 1
    while True:
        for tail in range(min(stops, 2)):
            if _least_turn(tail, stops - tail, slow, fast, lead) is None:
                return tail, stops - tail
        stops += 1


def doubling_steps(tail, ring):
    """After how many steps the doubling walker ends."""
    _need_track(tail, ring)
    limit = 1
    while limit - 1 < tail or limit < ring:
        limit = 2 * limit
    return limit - 1 + ring


def track_of(store, letter):
    """The pair (tail, ring) of the way of a name, None if it is no track."""
    return tail_and_ring(store, letter)


def meeting_place(store, letter, slow, fast, lead):
    """The place of the cell at which both walkers first meet on the way of a name, None if there is none."""
    track = tail_and_ring(store, letter)
    _need_walkers(slow, fast, lead, MOST_NUMBER)
    if track is None:
        return None
    tail, ring = track
    turn = _least_turn(tail, ring, slow, fast, lead)
    return None if turn is None else way(store, letter)[_stop(tail, ring, slow * turn)]
