"""Comparisons of places, as they stand in pictures and in tests."""

from arrowcells.kinds import is_letter, is_target


def comparison_in(words):
    """The triple (sign, letter, letter or END) of a comparison that a list of words tells, None if they tell none."""
    if len(words) == 3 and is_letter(words[0]) and words[1] in ("=", "!=") and is_target(words[2]):
        return words[1], words[0], words[2]
    return None
