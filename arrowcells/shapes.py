"""Shapes: how knots and stretches hang together, without any lengths."""

from arrowcells.errors import InvalidShape, UnknownName
from arrowcells.kinds import END, are_names, is_ascending, is_letter, number_in
from arrowcells.names import need_few_names, need_names


def knots_in(value):
    """The tuple of the knots (names, sign, next) of a shape, None for what is no shape."""
    if not isinstance(value, str):
        return None
    words = value.split(" ")
    knots = [_knot_in(word, len(words)) for word in words]
    if None in knots or not _are_all_names(knots) or not _are_real_knots(knots):
        return None
    if _in_order(knots) != list(range(len(knots))):
        return None
    return tuple(knots)


def letters_in(knots):
    """The letters of all knots, sorted."""
    return "".join(sorted([letter for names, _, _ in knots for letter in names]))


def stretches_number(knots):
    """How many of the knots are cells."""
    return [sign for _, sign, _ in knots].count(">")


def _knot_in(word, many):
    """The knot that a word tells, None if it tells none; many is the number of all knots."""
    if word.endswith(".") or word.endswith("!"):
        names, sign, target = word[:-1], word[-1], None
    else:
        names, sign, number = word.partition(">")
        target = number_in(number, many - 1)
        if target is None:
            return None
    if names == "-":
        return "", sign, target
    return (names, sign, target) if names != "" and is_ascending(names) else None


def _are_all_names(knots):
    """Whether the names of all knots together are one to four unlike letters."""
    return are_names(letters_in(knots))


def _are_real_knots(knots):
    """Whether END stands there once at most, and each cell without a name has two arrows to it."""
    targets = [target for _, _, target in knots]
    for number, (names, sign, _) in enumerate(knots):
        if names == "" and sign == ">" and targets.count(number) < 2:
            return False
    return [sign for _, sign, _ in knots].count(".") <= 1


def _in_order(knots):
    """The numbers of the knots in the order in which the ways first come to them."""
    starts = {letter: number for number, (names, _, _) in enumerate(knots) for letter in names}
    order = []
    for letter in sorted(starts):
        at = starts[letter]
        while at is not None and at not in order:
            order.append(at)
            at = knots[at][2]
    return order


def places_in(knots):
    """The dict of the letters and places of knots; the place of a knot is END, or by one more than its number."""
    places = [END if sign == "." else number + 1 for number, (_, sign, _) in enumerate(knots)]
    return {letter: place for (names, _, _), place in zip(knots, places) for letter in names}


def shape_text(knots):
    """The shape with these knots, which may stand in any order."""
    order = _in_order(knots)
    numbers = {old: new for new, old in enumerate(order)}
    words = []
    for names, sign, target in [knots[old] for old in order]:
        behind = "" if target is None else str(numbers[target])
        words.append(f"{names or '-'}{sign}{behind}")
    return " ".join(words)


def need_knots(shape):
    """The knots of a shape; InvalidShape for what is no shape."""
    knots = knots_in(shape)
    if knots is None:
        raise InvalidShape(shape)
    return knots


def is_shape(value):
    """Whether a value, whatever it is, is the shape of a store."""
    return knots_in(value) is not None


def shapes(names):
    """The ascending tuple of all shapes with these one or two names."""
    need_names(names)
    need_few_names(names)
    found = [[]]
    for letter in names:
        found = [more for knots in found for more in _with_name(knots, letter)]
    texts = {shape_text(knots): True for knots in found}
    return tuple(sorted(texts))


def _with_name(knots, letter):
    """All lists of knots that one name more makes of a list of knots, in any order."""
    found = []
    for grown, at in _led_to(knots):
        names, sign, target = grown[at]
        found.append(grown[:at] + [(names + letter, sign, target)] + grown[at + 1:])
    # A new cell, whose stretch has no end as yet, may lead to its own cells as well.
    for grown, at in _led_to(knots + [(letter, ">", None)]):
        found.append([(names, sign, at if sign == ">" and target is None else target) for names, sign, target in grown])
    return found


def _led_to(knots):
    """All pairs of the knots, with one more where it is needed, and the number of a knot to lead to."""
    fresh = len(knots)
    found = [(knots, number) for number in range(fresh)]
    for number, (names, sign, target) in enumerate(knots):
        if sign == ">":
            cut = knots[:number] + [(names, ">", fresh)] + knots[number + 1:]
            found.append((cut + [("", ">", target)], fresh))
    found.append((knots + [("", "!", None)], fresh))
    if "." not in [sign for _, sign, _ in knots]:
        found.append((knots + [("", ".", None)], fresh))
    return found


def letters_of(shape):
    """The ascending string of the letters of a shape."""
    return letters_in(need_knots(shape))


def knots_number(shape):
    """How many knots a shape has."""
    return len(need_knots(shape))


def lengths_number(shape):
    """How many cell knots, and so stretches, a shape has."""
    return stretches_number(need_knots(shape))


def knot_words(shape):
    """The tuple of the triples (names, sign, next) of the knots."""
    return need_knots(shape)


def knot_at(shape, letter):
    """The number of the knot to which a name leads."""
    return _knot_of(need_knots(shape), letter)


def _knot_of(knots, letter):
    """The number of the knot to which a name leads; UnknownName for what is no name."""
    if is_letter(letter):
        for number, (names, _, _) in enumerate(knots):
            if letter in names:
                return number
    raise UnknownName(letter)


def stretches_on_way(shape, letter):
    """The tuple of the numbers of the cell knots on a name's way, in their order."""
    knots = need_knots(shape)
    at = _knot_of(knots, letter)
    numbers = []
    while knots[at][1] == ">" and at not in numbers:
        numbers.append(at)
        at = knots[at][2]
    return tuple(numbers)
