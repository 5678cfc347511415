"""What deeds do to places and arrows, and which names they use."""

from arrowcells.kinds import END


def needed(deed):
    """The letter that must lead to a cell, so that a deed does not fail; None if there is none."""
    if deed[0] == "next":
        return deed[2]
    return deed[1] if deed[0] in ("tie", "drop") else None


def change(places, arrows, deed, fresh):
    """Does a deed that does not fail; fresh is the place of a cell that is made."""
    if deed[0] == "copy":
        places[deed[1]] = place_told(places, deed[2])
    elif deed[0] == "next":
        places[deed[1]] = arrows[places[deed[2]]]
    elif deed[0] == "tie":
        arrows[places[deed[1]]] = place_told(places, deed[2])
    elif deed[0] == "new":
        arrows[fresh] = END
        places[deed[1]] = fresh
    else:
        arrows.pop(places[deed[1]])


def place_told(places, word):
    """The place to which a letter leads, or END."""
    return END if word == "END" else places[word]


def does_hold(test, places):
    """Whether the test with this tree holds."""
    told = [(sign == "=") == (places[letter] == place_told(places, word)) for sign, letter, word in test[1]]
    return all(told) if test[0] == "and" else any(told)


def letters_asked(deed):
    """The list of the letters that a deed asks."""
    words = deed[1:] if deed[0] in ("tie", "drop") else deed[2:]
    return [word for word in words if word != "END"]


def letters_set(deed):
    """The list of the letters that a deed sets."""
    return [deed[1]] if deed[0] in ("copy", "next", "new") else []
