"""Ways of names, and the cells that are reached or lost."""

from arrowcells.stores import need_store


def _followed(store, letter):
    """The list of the cells of a name's way, and the place behind the last one."""
    cells, on_way = [], {}
    place = store.at(letter)
    while place in store.arrows and place not in on_way:
        cells.append(place)
        on_way[place] = True
        place = store.arrows[place]
    return cells, place


def way(store, letter):
    """The tuple of the cells of the name's way, in their order."""
    need_store(store)
    cells, _ = _followed(store, letter)
    return tuple(cells)


def way_end(store, letter):
    """The place at which the way ends, or the cell of its own to which it comes back."""
    need_store(store)
    _, place = _followed(store, letter)
    return place


def tail_and_ring(store, letter):
    """The numbers of cells of the way's tail and ring, None if the way ends."""
    need_store(store)
    cells, place = _followed(store, letter)
    if place not in store.arrows:
        return None
    tail = cells.index(place)
    return tail, len(cells) - tail


def reached_from(names, arrows):
    """The dict of the cells that pairs (letter, place) reach, in the order in which the ways come to them."""
    cells = {}
    for _, start in names:
        place = start
        while place in arrows and place not in cells:
            cells[place] = True
            place = arrows[place]
    return cells


def reached_cells(store):
    """The dict of the reached cells of a store."""
    return reached_from(store.names, store.arrows)


def reached(store):
    """The ascending tuple of the cells that lie on the way of some name."""
    need_store(store)
    return tuple(sorted(reached_cells(store)))


def lost(store):
    """The ascending tuple of the cells that lie on no way."""
    need_store(store)
    cells = reached_cells(store)
    return tuple([place for place, _ in store.cells if place not in cells])


def first_common(store, letter, other):
    """The first cell of the first name's way that lies on the other one's, None if there is none."""
    need_store(store)
    cells, _ = _followed(store, letter)
    others, _ = _followed(store, other)
    on_other = {place: True for place in others}
    for place in cells:
        if place in on_other:
            return place
    return None
