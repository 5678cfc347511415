"""Pictures: their items, and the trees of them, as parts of sayings."""

from arrowcells.comparisons import comparison_in
from arrowcells.kinds import is_letter, is_target
from arrowcells.lengths import words_in

MOST_ITEMS = 8
MOST_CHAINS = 4
MOST_HIDDEN = 2
MOST_FIRST = 12
MOST_TURN = 6


def picture_tree(words):
    """The tree of the picture that a list of words tells, None if they tell none."""
    hidden = ""
    if words[:1] == ["some"]:
        colon = words.index(":") if ":" in words else 0
        hidden, words = words[1:colon], words[colon + 1:]
        if not 1 <= len(hidden) <= MOST_HIDDEN or not all([is_letter(letter) for letter in hidden]):
            return None
    items = [_item(row) for row in _rows(words)]
    if None in items or not _is_within_bounds(items) or not _are_come_to(hidden, items):
        return None
    return "picture", "".join(hidden), tuple(items)


def _rows(words):
    """The lists of words between the stars."""
    rows = [[]]
    for word in words:
        if word == "*":
            rows.append([])
        else:
            rows[-1].append(word)
    return rows


def _item(words):
    """The item that a list of words tells, None if they tell none."""
    if words == ["rest"]:
        return ("rest",)
    if len(words) == 2 and words[0] == "gone" and is_letter(words[1]):
        return "gone", words[1]
    if words[:1] == ["lost"]:
        numbers = " ".join(words[1:])
        return ("lost", numbers) if _is_small(numbers) else None
    if words[:1] == ["chain"] and len(words) > 3 and is_letter(words[1]) and is_target(words[2]):
        numbers = " ".join(words[3:])
        return ("chain", words[1], words[2], numbers) if _is_small(numbers) else None
    return comparison_in(words)


def _is_small(text):
    """Whether a text is a lengths text with numbers as small as a saying wants them."""
    words = words_in(text)
    return words is not None and all([first <= MOST_FIRST and many <= MOST_TURN for first, many in words])


def _is_within_bounds(items):
    """Whether there are not too many items, chains and rests."""
    words = [item[0] for item in items]
    return len(words) <= MOST_ITEMS and words.count("chain") <= MOST_CHAINS and words.count("rest") <= 1


def _are_come_to(hidden, items):
    """Whether the hidden letters are unlike, and chains lead to each one from letters that are shown."""
    pairs = [(item[1], item[2]) for item in items if item[0] == "chain"]
    waiting = list(hidden)
    # Each round may set free one more letter, so as many rounds as letters are enough.
    for _ in hidden:
        waiting = [letter for letter in waiting if not any(
            [second == letter and first not in waiting for first, second in pairs])]
    return waiting == [] and len(set(hidden)) == len(hidden)


def letters_shown(tree):
    """The dict of the letters that are shown in a picture."""
    _, hidden, items = tree
    shown = {}
    for item in items:
        for word in item[1:3]:
            if is_letter(word) and word not in hidden:
                shown[word] = True
    return shown


def lengths_texts(tree):
    """The list of the lengths texts of a picture."""
    return [item[-1] for item in tree[2] if item[0] in ("lost", "chain")]
