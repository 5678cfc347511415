"""What the document says of stores, plans, lengths texts and pictures, done again in the plainest way."""

import itertools


def way(arrows, place):
    """The cells of the way from a place, and the place behind them."""
    cells = []
    while place in arrows and place not in cells:
        cells.append(place)
        place = arrows[place]
    return cells, place


def reached(names, arrows):
    """The set of the reached cells."""
    return {cell for _, place in names for cell in way(arrows, place)[0]}


def are_matched(names, cells, other_names, other_cells):
    """Whether there is a matching as in [12], found by following both stores side by side."""
    arrows, others = dict(cells), dict(other_cells)
    if [letter for letter, _ in names] != [letter for letter, _ in other_names]:
        return False
    if len(arrows) - len(reached(names, arrows)) != len(others) - len(reached(other_names, others)):
        return False
    there, back = {0: 0}, {0: 0}
    for (_, place), (_, other) in zip(names, other_names):
        while True:
            known = place in there or other in back
            if known and (there.get(place) != other or back.get(other) != place):
                return False
            if (place in arrows) != (other in others):
                return False
            if known and place != 0:
                break
            there[place], back[other] = other, place
            if place not in arrows:
                break
            place, other = arrows[place], others[other]
    return True


def has(text, number):
    """Whether a number is in the set of a lengths text."""
    for word in text.split(" "):
        first, plus, step = word.partition("+")
        if first == "none":
            return False
        if number == int(first) or (plus and number > int(first) and (number - int(first)) % int(step or 1) == 0):
            return True
    return False


def chain(arrows, first, second, many):
    """The cells of the chain of so many cells between two places, None if there is none."""
    if many == 0:
        return () if first == second else None
    cells = [first]
    for _ in range(many - 1):
        cells.append(arrows.get(cells[-1]))
    if None in cells or len(set(cells)) < many or arrows.get(cells[-1]) != second or second in cells[1:]:
        return None
    return tuple(cells)


def holds(item, at, arrows, lost):
    """Whether an item that is no chain holds."""
    if item[0] == "=":
        return at[item[1]] == at[item[2]]
    if item[0] == "!=":
        return at[item[1]] != at[item[2]]
    if item[0] == "gone":
        return at[item[1]] != 0 and at[item[1]] not in arrows
    return item[0] != "lost" or has(item[1], lost)


def placings(names, cells, picture):
    """All placings with which the picture with this tree fits a store."""
    _, hidden, items = picture
    arrows = dict(cells)
    places = sorted({0, *arrows, *arrows.values(), *[place for _, place in names]})
    lost = len(arrows) - len(reached(names, arrows))
    chains = [item for item in items if item[0] == "chain"]
    found = []
    for told in itertools.product(places, repeat=len(hidden)):
        at = {**dict(names), **dict(zip(hidden, told)), "END": 0}
        if all(holds(item, at, arrows, lost) for item in items):
            options = [[run for many in range(len(arrows) + 1) if has(text, many)
                        and (run := chain(arrows, at[first], at[second], many)) is not None]
                       for _, first, second, text in chains]
            for runs in itertools.product(*options):
                used = [cell for run in runs for cell in run]
                if len(set(used)) == len(used) and (("rest",) in items or len(used) == len(arrows)):
                    found.append((told, tuple(len(run) for run in runs)))
    return found


def keeps(names, cells, tree):
    """Whether a store keeps the saying with this tree."""
    if tree[0] == "picture":
        return placings(names, cells, tree) != []
    if tree[0] == "not":
        return not keeps(names, cells, tree[1])
    kept = [keeps(names, cells, part) for part in tree[1]]
    return all(kept) if tree[0] == "and" else any(kept)
