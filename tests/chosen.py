"""Sayings, programs and lots that are put together at random, the same ones for the same beginning."""

from arrowcells.lengths import Lengths
from arrowcells.lots import Lot
from arrowcells.plans import plan_of
from arrowcells.programs import is_program
from arrowcells.sayings import is_saying
from arrowcells.shapes import lengths_number, shapes
from tests.helpers import some_stores


def some_lengths(random, step, high):
    """A lengths text with numbers up to a bound."""
    if random.random() < 0.02:
        return "none"
    behind = ["", "", "", "+", "+", f"+{step}", f"+{step}"]
    many = random.choice([1, 1, 1, 2, 3])
    return " ".join(f"{random.randint(0, high)}{random.choice(behind)}" for _ in range(many))


def some_picture(random, names, step, high):
    """A picture whose shown letters are names."""
    while True:
        hidden = random.choice(["", "", "h", "h", "hk", "kh", "h" + names[-1]])
        letters = list(names) + 2 * list(hidden)
        ends = letters + ["END", "END"]
        items = []
        for _ in range(random.randint(1, 4)):
            lengths = some_lengths(random, step, high)
            items.append(f"chain {random.choice(letters)} {random.choice(ends)} {lengths}")
        for _ in range(random.choice([0, 0, 0, 1, 2])):
            letter = random.choice(letters)
            items.append(random.choice([f"gone {letter}", f"lost {some_lengths(random, step, high)}",
                                        f"{letter} = {random.choice(ends)}", f"{letter} != {random.choice(ends)}"]))
        if random.random() < 0.6:
            items.append("rest")
        random.shuffle(items)
        text = (f"some {' '.join(hidden)} : " if hidden else "") + " * ".join(items)
        if is_saying(text):
            return text


def some_part(random, names, step, high, depth):
    """A saying of at most so many brackets in one another."""
    chance = random.random()
    if depth == 0 or chance < 0.55:
        return some_picture(random, names, step, high)
    if chance < 0.7:
        return f"not ( {some_part(random, names, step, high, depth - 1)} )"
    parts = [some_part(random, names, step, high, depth - 1) for _ in range(random.choice([2, 2, 3]))]
    return random.choice([" and ", " or "]).join(f"( {part} )" for part in parts)


def some_sayings(random, names, many, step=None, high=None):
    """So many sayings whose shown letters are names."""
    for _ in range(many):
        text = some_part(random, names, step or random.choice([2, 2, 3, 4]), high or random.choice([2, 2, 3, 5]), 2)
        if is_saying(text):
            yield text


def some_test(random, letters):
    """A test over letters."""
    parts = []
    for _ in range(random.choice([1, 1, 1, 2, 2, 3])):
        words = random.choice(letters), random.choice(["=", "!="]), random.choice(letters + ["END"])
        parts.append(" ".join(words))
    return random.choice([" and ", " or "]).join(parts)


def some_deed(random, letters):
    """The text of a deed over letters."""
    first, second = random.choice(letters), random.choice(letters)
    end = random.choice(letters + ["END"])
    return random.choice([f"{first} = {end}", f"{first} = next {second}", f"{first} = next {second}",
                          f"next {first} = {end}", f"next {first} = {end}", f"{first} = new", f"drop {first}"])


def some_program(random, letters, many, depth=2, has_loops=True):
    """A program over letters, of about so many statements, with braces as deep in one another."""
    parts = []
    while many > 0:
        chance = random.random()
        if depth == 0 or chance < 0.75:
            parts.append(some_deed(random, letters))
            many -= 1
            continue
        inner = random.randint(0, many)
        body = some_program(random, letters, inner, depth - 1, has_loops)
        text = f"{{ {body} }}"
        if has_loops and chance > 0.9:
            parts.append(f"while {some_test(random, letters)} {text}")
        elif chance > 0.85:
            other = some_program(random, letters, random.randint(0, many - inner), depth - 1, has_loops)
            parts.append(f"if {some_test(random, letters)} {text} else {{ {other} }}")
        else:
            parts.append(f"if {some_test(random, letters)} {text}")
        many -= inner + 1
    return "; ".join(parts) or "none"


def some_set(random, has_zero, top=4):
    """A Lengths that is not empty, with small numbers and steps."""
    while True:
        words = []
        for _ in range(random.choice([1, 1, 2, 3])):
            behind = random.choice(["", "", "+", "+2", "+3", "+4", "+6"])
            words.append(f"{random.randint(0 if has_zero else 1, top)}{behind}")
        told = Lengths(" ".join(words))
        if has_zero or 0 not in told:
            return told


def some_lot(random, names, told, most=4, top=4):
    """A lot with a few boxes, whose shapes are some of those told."""
    boxes = []
    for _ in range(random.randint(0, most)):
        shape = random.choice(told)
        sets = [some_set(random, False, top) for _ in range(lengths_number(shape))]
        boxes.append((shape, tuple(sets), some_set(random, True, 2)))
    return Lot(names, tuple(boxes))


def some_shapes(random, names):
    """The list of all shapes with one or two names, or of some with more names."""
    if len(names) < 3:
        return list(shapes(names))
    return sorted({plan_of(store).shape for store in some_stores(random, names, 600)})


def some_straight(random, names, most=9):
    """A program without loops over names and perhaps helpers, at most four letters together."""
    while True:
        helpers = [letter for letter in "tuab" if letter not in names]
        letters = list(names) + helpers[:random.randint(0, 4 - len(names))]
        text = some_program(random, letters, random.randint(0, most), 2, False)
        if is_program(text):
            return text


def some_change(random, text, names):
    """A program that is like a program without loops but for one statement, or None."""
    parts = text.split("; ")
    at = random.randrange(len(parts))
    chance = random.random()
    if chance < 0.4:
        parts.insert(at, some_deed(random, list(names)))
    elif chance < 0.7:
        parts[at] = some_deed(random, list(names))
    else:
        parts[at - 1], parts[at] = parts[at], parts[at - 1]
    changed = "; ".join(parts)
    return changed if is_program(changed) else None
