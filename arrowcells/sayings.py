"""Sayings: pictures, joined by not, and, or; their texts and trees."""

from arrowcells.errors import InvalidSaying
from arrowcells.kinds import is_tuple_of
from arrowcells.lengths import words_in
from arrowcells.names import need_known
from arrowcells.pictures import lengths_texts, letters_shown, picture_tree

MOST_PICTURES = 6
MOST_BRACKETS = 4


def is_saying(value):
    """Whether a value, whatever it is, is a saying."""
    return saying_or_none(value) is not None


def saying_tree(saying):
    """The tree of a saying."""
    tree = saying_or_none(saying)
    if tree is None:
        raise InvalidSaying(saying)
    return tree


def need_picture(picture):
    """The tree of a picture; InvalidSaying for what is none."""
    tree = saying_tree(picture)
    if tree[0] != "picture":
        raise InvalidSaying(picture)
    return tree


def need_shown(tree, letters):
    """Raises UnknownName with the first letter that a saying shows and that is none of the letters."""
    need_known(shown_in(tree), letters)


def saying_or_none(value):
    """The tree of a saying, None for what is no saying."""
    if not isinstance(value, str):
        return None
    words = value.split(" ")
    found = _read(words, 0, 0)
    if found is None or found[1] != len(words):
        return None
    pictures = pictures_in(found[0])
    if len(pictures) > MOST_PICTURES or len(_steps_in(pictures)) > 1:
        return None
    return found[0]


def _read(words, at, depth):
    """The tree of the saying that begins at an index, and the index behind it; None if there is none."""
    word = words[at] if at < len(words) else ")"
    if word == "not":
        found = _read_bracket(words, at + 1, depth)
        return None if found is None else (("not", found[0]), found[1])
    if word == "(":
        return _read_joined(words, at, depth)
    behind = at
    while behind < len(words) and words[behind] != ")":
        behind += 1
    tree = picture_tree(words[at:behind])
    return None if tree is None else (tree, behind)


def _read_bracket(words, at, depth):
    """Like _read, for a saying in brackets, of which so many are open around it."""
    if words[at:at + 1] != ["("] or depth >= MOST_BRACKETS:
        return None
    found = _read(words, at + 1, depth + 1)
    if found is None or words[found[1]:found[1] + 1] != [")"]:
        return None
    return found[0], found[1] + 1


def _read_joined(words, at, depth):
    """Like _read, for two or more sayings in brackets with the same word between them."""
    found = _read_bracket(words, at, depth)
    if found is None:
        return None
    trees, at = [found[0]], found[1]
    joint = words[at] if at < len(words) else ""
    if joint not in ("and", "or"):
        return None
    while words[at:at + 1] == [joint]:
        found = _read_bracket(words, at + 1, depth)
        if found is None:
            return None
        trees.append(found[0])
        at = found[1]
    return (joint, tuple(trees)), at


def pictures_in(tree):
    """The list of the pictures of a tree, in the order of the text."""
    if tree[0] == "picture":
        return [tree]
    trees = (tree[1],) if tree[0] == "not" else tree[1]
    return [picture for part in trees for picture in pictures_in(part)]


def _steps_in(pictures):
    """The dict of the numbers M in the lengths texts of pictures."""
    texts = [text for picture in pictures for text in lengths_texts(picture)]
    return {many: True for text in texts for _, many in words_in(text) if many > 1}


def shown_letters(saying):
    """The ascending string of the letters that are shown in some picture of a saying."""
    return shown_in(saying_tree(saying))


def shown_in(tree):
    """The ascending string of the letters that are shown in some picture of a tree."""
    shown = {letter: True for picture in pictures_in(tree) for letter in letters_shown(picture)}
    return "".join(sorted(shown))


def saying_text(tree):
    """The saying with this tree."""
    text = _text(tree)
    # The text of what only looks like a tree leads to another tree, or to none.
    if text is None or saying_or_none(text) != tree:
        raise InvalidSaying(tree)
    return text


def _text(tree):
    """The text for a tree, None for what does not even look like one."""
    if is_tuple_of(tree, 3) and tree[0] == "picture":
        return _picture_text(tree[1], tree[2])
    if not is_tuple_of(tree, 2):
        return None
    if tree[0] == "not":
        text = _text(tree[1])
        return None if text is None else f"not ( {text} )"
    if tree[0] not in ("and", "or") or not isinstance(tree[1], tuple):
        return None
    texts = [_text(part) for part in tree[1]]
    joint = f" {tree[0]} "
    return None if None in texts else joint.join([f"( {text} )" for text in texts])


def _picture_text(hidden, items):
    """The text for the hidden letters and the items of a picture, None if they do not look like such."""
    if not isinstance(hidden, str) or not isinstance(items, tuple):
        return None
    texts = [_item_text(item) for item in items]
    if None in texts:
        return None
    names = " ".join(list(hidden))
    before = f"some {names} : " if hidden else ""
    return before + " * ".join(texts)


def _item_text(item):
    """The text for an item, None for what does not look like one."""
    if not isinstance(item, tuple) or not all([isinstance(word, str) for word in item]):
        return None
    if len(item) == 3 and item[0] in ("=", "!="):
        return f"{item[1]} {item[0]} {item[2]}"
    return " ".join(item)
