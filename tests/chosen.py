"""Sayings that are put together at random, the same ones for the same beginning."""

from arrowcells.sayings import is_saying


def some_lengths(random, step, high):
    """A lengths text with numbers up to a bound."""
    if random.random() < 0.02:
        return "none"
    behind = ["", "", "", "+", "+", f"+{step}", f"+{step}"]
    many = random.choice([1, 1, 1, 2, 3])
    return " ".join(f"{random.randint(0, high)}{random.choice(behind)}" for _ in range(many))


def some_picture(random, names, step, high):
    """A picture whose shown letters are names."""
    while True:
        hidden = random.choice(["", "", "h", "h", "hk", "kh", "h" + names[-1]])
        letters = list(names) + 2 * list(hidden)
        ends = letters + ["END", "END"]
        items = []
        for _ in range(random.randint(1, 4)):
            lengths = some_lengths(random, step, high)
            items.append(f"chain {random.choice(letters)} {random.choice(ends)} {lengths}")
        for _ in range(random.choice([0, 0, 0, 1, 2])):
            letter = random.choice(letters)
            items.append(random.choice([f"gone {letter}", f"lost {some_lengths(random, step, high)}",
                                        f"{letter} = {random.choice(ends)}", f"{letter} != {random.choice(ends)}"]))
        if random.random() < 0.6:
            items.append("rest")
        random.shuffle(items)
        text = (f"some {' '.join(hidden)} : " if hidden else "") + " * ".join(items)
        if is_saying(text):
            return text


def some_part(random, names, step, high, depth):
    """A saying of at most so many brackets in one another."""
    chance = random.random()
    if depth == 0 or chance < 0.55:
        return some_picture(random, names, step, high)
    if chance < 0.7:
        return f"not ( {some_part(random, names, step, high, depth - 1)} )"
    parts = [some_part(random, names, step, high, depth - 1) for _ in range(random.choice([2, 2, 3]))]
    return random.choice([" and ", " or "]).join(f"( {part} )" for part in parts)


def some_sayings(random, names, many, step=None, high=None):
    """So many sayings whose shown letters are names."""
    for _ in range(many):
        text = some_part(random, names, step or random.choice([2, 2, 3, 4]), high or random.choice([2, 2, 3, 5]), 2)
        if is_saying(text):
            yield text
