"""Checks of the names of lots and stores."""

from arrowcells.errors import InvalidNames, TooMany, UnknownName
from arrowcells.kinds import are_names

MOST_NAMES_OF_SAYINGS = 2


def need_names(value):
    """Raises InvalidNames for what are no names of a lot."""
    if not are_names(value):
        raise InvalidNames(value)


def need_few_names(names):
    """Raises TooMany with the number of names, if there are more than two."""
    if len(names) > MOST_NAMES_OF_SAYINGS:
        raise TooMany(len(names))


def need_known(letters, names):
    """Raises UnknownName with the first of the letters that is none of the names."""
    for letter in letters:
        if letter not in names:
            raise UnknownName(letter)
