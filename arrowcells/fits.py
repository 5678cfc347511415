"""When a picture fits a store, and when a store keeps a saying."""

from arrowcells.errors import InvalidPlacing
from arrowcells.kinds import END, is_place, is_tuple_of
from arrowcells.lengths import Lengths
from arrowcells.placings import Search, chain_of, items_hold
from arrowcells.sayings import need_picture, need_shown, saying_tree
from arrowcells.stores import need_store


def placing(store, picture):
    """Any pair of places and lengths with which a picture fits a store, None if it does not fit."""
    return found_placing(store, _checked(store, picture))


def _checked(store, picture):
    """The tree of a picture for a store, behind the errors that all functions here have in common."""
    need_store(store)
    tree = need_picture(picture)
    need_shown(tree, store.letters)
    return tree


def found_placing(store, tree):
    """Any placing of the picture with this tree, None if it does not fit."""
    return Search(store, tree).found()


def is_placing(store, picture, value):
    """Whether a value, whatever it is, is a placing with which a picture fits a store."""
    return cells_placed(store, _checked(store, picture), value) is not None


def chain_cells(store, picture, value):
    """The tuple of the tuples of the cells of the chains, for a placing of the picture."""
    cells = cells_placed(store, _checked(store, picture), value)
    if cells is None:
        raise InvalidPlacing(value)
    return cells


def cells_placed(store, tree, value):
    """The cells of the chains for a value, None if it is no placing of the picture with this tree."""
    _, hidden, items = tree
    chains = [item for item in items if item[0] == "chain"]
    if not _looks_placed(value, len(hidden), len(chains)):
        return None
    places = {**store.places, "END": END}
    for letter, place in zip(hidden, value[0]):
        places[letter] = place
    rows = []
    for (_, first, second, text), many in zip(chains, value[1]):
        rows.append(chain_of(store, places[first], places[second], many) if many in Lengths(text) else None)
    if None in rows or not items_hold(store, items, places):
        return None
    cells = [cell for row in rows for cell in row]
    if len(set(cells)) < len(cells) or (("rest",) not in items and len(cells) < len(store.cells)):
        return None
    return tuple(rows)


def _looks_placed(value, places, lengths):
    """Whether a value is a pair of a tuple of so many places and a tuple of so many values."""
    if not is_tuple_of(value, 2) or not is_tuple_of(value[0], places) or not is_tuple_of(value[1], lengths):
        return False
    return all([is_place(place) for place in value[0]])


def keeps(store, saying):
    """Whether a store keeps a saying."""
    need_store(store)
    tree = saying_tree(saying)
    need_shown(tree, store.letters)
    return keeps_tree(store, tree)


def keeps_tree(store, tree):
    """Whether a store keeps the saying with this tree."""
    if tree[0] == "picture":
        return found_placing(store, tree) is not None
    if tree[0] == "not":
        return not keeps_tree(store, tree[1])
    wanted = tree[0] == "or"
    for part in tree[1]:
        if keeps_tree(store, part) == wanted:
            return wanted
    return not wanted
