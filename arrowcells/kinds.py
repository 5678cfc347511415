"""Whether values are of the plain kinds of the document, whatever they are."""

LETTERS = "abcdefghijklmnopqrstuvwxyz"
FIGURES = "0123456789"
END = 0
LAST_PLACE = 999


def is_number(value):
    """Whether a value is a whole number, which True and False are not."""
    return isinstance(value, int) and not isinstance(value, bool)


def is_whole(value, low, high):
    """Whether a value is a whole number from low to high."""
    return is_number(value) and low <= value <= high


def is_place(value):
    """Whether a value is a place."""
    return is_whole(value, END, LAST_PLACE)


def is_letter(value):
    """Whether a value is one of the small letters."""
    return isinstance(value, str) and len(value) == 1 and value in LETTERS


def is_target(value):
    """Whether a value is a letter or `END`, which may both tell where something leads."""
    return is_letter(value) or value == "END"


def is_ascending(letters):
    """Whether a string consists of unlike letters, ascending; it may be empty."""
    before = ""
    for letter in letters:
        if letter not in LETTERS or letter <= before:
            return False
        before = letter
    return True


def are_names(value):
    """Whether a value is a string of one to four unlike letters, ascending."""
    return isinstance(value, str) and 1 <= len(value) <= 4 and is_ascending(value)


def is_tuple_of(value, many):
    """Whether a value is a tuple of so many elements."""
    return isinstance(value, tuple) and len(value) == many


def number_in(word, high):
    """The number that a string tells in figures, None if it tells none up to high."""
    if word == "" or len(word) > len(str(high)) or (word[0] == "0" and word != "0"):
        return None
    for sign in word:
        if sign not in FIGURES:
            return None
    number = int(word)
    return number if number <= high else None
