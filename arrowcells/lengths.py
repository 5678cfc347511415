"""Sets of lengths, and the texts that tell them."""

from math import lcm

from arrowcells.errors import InvalidLengths, InvalidNumber, InvalidNumbers, NotLengths, TooMany
from arrowcells.kinds import is_number, is_whole, number_in
from arrowcells.rounds import all_bits, has_number, numbers_in, repeated, settled

MOST_NUMBER = 1000
MOST_STEP = 60
MOST_START = 600
MOST_MEMBERS = 400
MOST_HIGH = 10 ** 30


class Lengths:
    """A set of numbers that comes round; it never changes."""

    def __init__(self, text):
        words = words_in(text)
        if words is None:
            raise InvalidLengths(text)
        step = common_step(words)
        if step > MOST_STEP:
            raise TooMany(step)
        rounded = rounded_words(words, step)
        if rounded[0] > MOST_START:
            raise TooMany(rounded[0])
        self.take(rounded)

    def __eq__(self, other):
        return isinstance(other, Lengths) and self.rounded == other.rounded

    def __contains__(self, number):
        return is_number(number) and number >= 0 and has_number(self.rounded, number)

    def take(self, rounded):
        """Sets all attributes; only for the making of a new object."""
        start, step, bits = rounded
        self.rounded = rounded
        self.start = start
        self.step = step
        self.below = tuple(numbers_in(bits & all_bits(start)))
        self.cycle = tuple([start + number for number in numbers_in(bits >> start)])
        self.least = min(self.below + self.cycle, default=None)
        self.is_endless = self.cycle != ()
        self.text = _normal_text(self.below, self.cycle, step)

    def members(self, many):
        """The ascending tuple of the least members, so many, or all if there are fewer."""
        if not is_whole(many, 0, MOST_MEMBERS):
            raise InvalidNumber(many)
        found = list(self.below)
        turn = 0
        while self.is_endless and len(found) < many:
            found.extend([number + turn * self.step for number in self.cycle])
            turn += 1
        return tuple(found[:many])

    def counted(self, high):
        """How many members are not above a number."""
        if not is_whole(high, 0, MOST_HIGH):
            raise InvalidNumber(high)
        singles = len([number for number in self.below if number <= high])
        return singles + sum([(high - number) // self.step + 1 for number in self.cycle if number <= high])


def words_in(text):
    """The tuple of the pairs of N and M of a lengths text, None for what is no lengths text.

    M is 0 for a word N, and 1 for a word N+; the text `none` has no words.
    """
    if not isinstance(text, str):
        return None
    words = [_word_in(word) for word in text.split(" ")] if text != "none" else []
    return None if None in words else tuple(words)


def _word_in(word):
    """The pair of N and M of a word, None if it is no word of a lengths text."""
    number, plus, step = word.partition("+")
    first = number_in(number, MOST_NUMBER)
    if first is None:
        return None
    if step == "":
        return first, len(plus)
    many = number_in(step, MOST_STEP)
    return None if many is None or many < 2 else (first, many)


def common_step(words):
    """The least common multiple of the numbers M of the words."""
    step = 1
    for _, many in words:
        step = lcm(step, max(many, 1))
    return step


def rounded_words(words, step):
    """The set that the words tell together, as a triple of rounds; step is their common step."""
    start = max([first for first, _ in words], default=0) + 1
    bits = 0
    for first, many in words:
        told = repeated(1, many, start + step - first) if many else 1
        bits = bits | (told << first)
    return settled(start, step, bits)


def _normal_text(below, cycle, step):
    """The normal text of the set with these members below the start and from it on."""
    behind = "+" if step == 1 else f"+{step}"
    words = [str(number) for number in below] + [f"{number}{behind}" for number in cycle]
    return " ".join(words) or "none"


def made_lengths(rounded):
    """The Lengths of a triple of rounds, whatever its start and step."""
    made = Lengths("none")
    made.take(rounded)
    return made


def need_lengths(value):
    """Raises NotLengths for what is no Lengths."""
    if not isinstance(value, Lengths):
        raise NotLengths(value)


def of_numbers(numbers):
    """The finite set of the numbers of a tuple."""
    if not isinstance(numbers, tuple):
        raise InvalidNumbers(None)
    bits = 0
    for index, number in enumerate(numbers):
        if not is_whole(number, 0, MOST_START - 1):
            raise InvalidNumbers(index)
        bits = bits | (1 << number)
    return made_lengths(settled(bits.bit_length(), 1, bits))
