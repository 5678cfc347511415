"""What the document says of stores, plans, lengths texts and pictures, done again in the plainest way."""

import itertools


def way(arrows, place):
    """The cells of the way from a place, and the place behind them."""
    cells = []
    while place in arrows and place not in cells:
        cells.append(place)
        place = arrows[place]
    return cells, place


def reached(names, arrows):
    """The set of the reached cells."""
    return {cell for _, place in names for cell in way(arrows, place)[0]}


def are_matched(names, cells, other_names, other_cells):
    """Whether there is a matching as in [12], found by following both stores side by side."""
    arrows, others = dict(cells), dict(other_cells)
    if [letter for letter, _ in names] != [letter for letter, _ in other_names]:
        return False
    if len(arrows) - len(reached(names, arrows)) != len(others) - len(reached(other_names, others)):
        return False
    there, back = {0: 0}, {0: 0}
    for (_, place), (_, other) in zip(names, other_names):
        while True:
            known = place in there or other in back
            if known and (there.get(place) != other or back.get(other) != place):
                return False
            if (place in arrows) != (other in others):
                return False
            if known and place != 0:
                break
            there[place], back[other] = other, place
            if place not in arrows:
                break
            place, other = arrows[place], others[other]
    return True


def has(text, number):
    """Whether a number is in the set of a lengths text."""
    for word in text.split(" "):
        first, plus, step = word.partition("+")
        if first == "none":
            return False
        if number == int(first) or (plus and number > int(first) and (number - int(first)) % int(step or 1) == 0):
            return True
    return False


def chain(arrows, first, second, many):
    """The cells of the chain of so many cells between two places, None if there is none."""
    if many == 0:
        return () if first == second else None
    cells = [first]
    for _ in range(many - 1):
        cells.append(arrows.get(cells[-1]))
    if None in cells or len(set(cells)) < many or arrows.get(cells[-1]) != second or second in cells[1:]:
        return None
    return tuple(cells)


def holds(item, at, arrows, lost):
    """Whether an item that is no chain holds."""
    if item[0] == "=":
        return at[item[1]] == at[item[2]]
    if item[0] == "!=":
        return at[item[1]] != at[item[2]]
    if item[0] == "gone":
        return at[item[1]] != 0 and at[item[1]] not in arrows
    return item[0] != "lost" or has(item[1], lost)


def placings(names, cells, picture):
    """All placings with which the picture with this tree fits a store."""
    _, hidden, items = picture
    arrows = dict(cells)
    places = sorted({0, *arrows, *arrows.values(), *[place for _, place in names]})
    lost = len(arrows) - len(reached(names, arrows))
    chains = [item for item in items if item[0] == "chain"]
    found = []
    for told in itertools.product(places, repeat=len(hidden)):
        at = {**dict(names), **dict(zip(hidden, told)), "END": 0}
        if all(holds(item, at, arrows, lost) for item in items):
            options = [[run for many in range(len(arrows) + 1) if has(text, many)
                        and (run := chain(arrows, at[first], at[second], many)) is not None]
                       for _, first, second, text in chains]
            for runs in itertools.product(*options):
                used = [cell for run in runs for cell in run]
                if len(set(used)) == len(used) and (("rest",) in items or len(used) == len(arrows)):
                    found.append((told, tuple(len(run) for run in runs)))
    return found


def keeps(names, cells, tree):
    """Whether a store keeps the saying with this tree."""
    if tree[0] == "picture":
        return placings(names, cells, tree) != []
    if tree[0] == "not":
        return not keeps(names, cells, tree[1])
    kept = [keeps(names, cells, part) for part in tree[1]]
    return all(kept) if tree[0] == "and" else any(kept)


class Fault(Exception):
    """A deed fails."""


class Long(Exception):
    """A deed or a test is still to be done, and no step is left."""


class Walk:
    """A run of the tree of a program on a store, done as the words of [9], [24] and [25] tell."""

    def __init__(self, names, cells, tree, most):
        self.at = {**{letter: 0 for letter in letters_of(tree)}, **dict(names)}
        self.arrows = dict(cells)
        self.been = set(self.arrows)
        self.made = set()
        self.most, self.steps, self.number, self.deed, self.word = most, 0, 0, None, "done"
        self.reads, self.writes, self.asks, self.sets = set(), set(), set(), set()
        try:
            self.through(tree, 0)
        except Fault:
            self.word = "fault"
        except Long:
            self.word = "long"
        self.names = tuple((letter, self.at[letter]) for letter, _ in names)
        self.cells = tuple(sorted(self.arrows.items()))

    def through(self, tree, first):
        for statement in tree:
            if statement[0] == "while":
                while self.look(statement[1]):
                    self.through(statement[2], first)
            elif statement[0] == "if":
                if self.look(statement[1]):
                    self.through(statement[2], first)
                else:
                    self.through(statement[3], first + deeds_number(statement[2]))
            else:
                self.step(statement, first)
            first += deeds_number((statement,))

    def count(self):
        if self.steps == self.most:
            raise Long
        self.steps += 1

    def look(self, test):
        self.count()
        self.asks |= {word for item in test[1] for word in item[1:] if word != "END"}
        return is_so(self.at, test)

    def step(self, deed, number):
        self.count()
        needs = {"next": deed[-1], "tie": deed[1], "drop": deed[1]}.get(deed[0])
        if needs is not None and self.at[needs] not in self.arrows:
            self.steps, self.deed = self.steps - 1, number
            raise Fault
        asked = {"copy": deed[2:], "next": deed[2:], "tie": deed[1:], "drop": deed[1:], "new": ()}[deed[0]]
        self.asks |= set(asked) - {"END"}
        told = {**self.at, "END": 0}
        if deed[0] == "copy":
            self.at[deed[1]] = told[deed[2]]
        elif deed[0] == "next":
            self.reads.add(told[deed[2]])
            self.at[deed[1]] = self.arrows[told[deed[2]]]
        elif deed[0] == "tie":
            self.writes.add(told[deed[1]])
            self.arrows[told[deed[1]]] = told[deed[2]]
        elif deed[0] == "drop":
            self.writes.add(told[deed[1]])
            self.arrows.pop(told[deed[1]])
        else:
            used = self.been | set(self.arrows.values()) | set(self.at.values())
            place = min(set(range(1, 1000)) - used)
            self.writes.add(place)
            self.been.add(place)
            self.made.add(place)
            self.arrows[place] = 0
            self.at[deed[1]] = place
        if deed[0] in ("copy", "next", "new"):
            self.sets.add(deed[1])

    def seen(self):
        """What a Run of the program tells."""
        letters = [letter for letter, _ in self.names]
        words = ["".join(sorted(part & set(letters))) for part in (self.asks, self.sets)]
        return (self.word, self.names, self.cells, self.steps, self.deed, tuple(sorted(self.reads)),
                tuple(sorted(self.writes)), *words)


def is_so(at, test):
    """Whether a test holds, where the letters lead to these places."""
    told = {**at, "END": 0}
    found = [(told[letter] == told[word]) is (sign == "=") for sign, letter, word in test[1]]
    return all(found) if test[0] == "and" else any(found)


def letters_of(value):
    """All letters in a tree of a program or of a test."""
    if isinstance(value, str):
        return {value} if len(value) == 1 and value.islower() else set()
    return {letter for part in value for letter in letters_of(part)}


def deeds_number(tree):
    """How many deeds there are in a tree."""
    return sum(deeds_number(one[2]) + deeds_number(one[3] if len(one) > 3 else ()) if one[0] in ("if", "while") else 1
               for one in tree)


def leave_same(first, second):
    """Whether two walks from the same store leave the same, by trying all matchings of the places of new cells."""
    if "fault" in (first.word, second.word):
        return first.word == second.word
    kept, others = [sorted(walk.made & (set(walk.arrows) | gone_places(walk))) for walk in (first, second)]
    if len(kept) != len(others):
        return False
    return any(is_match(first, second, dict(zip(kept, order))) for order in itertools.permutations(others))


def gone_places(walk):
    """The places to which names or arrows lead, and which are no cells."""
    return ({place for _, place in walk.names} | set(walk.arrows.values())) - set(walk.arrows)


def is_match(first, second, matched):
    """Whether the store of the one walk becomes that of the other one, by the matching of new places."""
    def told(place):
        return ("new", matched[place]) if place in first.made else ("old", place)

    def there(place):
        return ("new" if place in second.made else "old", place)

    names = [(letter, told(place)) for letter, place in first.names]
    arrows = {told(cell): told(place) for cell, place in first.arrows.items()}
    return (names == [(letter, there(place)) for letter, place in second.names]
            and arrows == {there(cell): there(place) for cell, place in second.arrows.items()})


class Restless(Exception):
    """A run is restless at the loop whose number is told."""


class CourseWalk(Walk):
    """A walk of a plain program that keeps the courses of its turns; shape_of tells the shape of names and cells."""

    def __init__(self, names, cells, tree, most, shape_of):
        self.shape_of = shape_of
        self.course = []
        self.turns = [0] * loops_number(tree)
        self.restless = None
        try:
            super().__init__(names, cells, tree, most)
        except Restless as error:
            self.restless = error.args[0]

    def through(self, tree, first, loop=0):
        for statement in tree:
            if statement[0] == "while":
                self.go_round(statement, first, loop)
            elif statement[0] == "if":
                if self.look(statement[1]):
                    self.through(statement[2], first, loop)
                else:
                    self.through(statement[3], first + deeds_number(statement[2]), loop + loops_number(statement[2]))
            else:
                self.step(statement, first)
                self.course.append((statement, self.shape()))
            first += deeds_number((statement,))
            loop += loops_number((statement,))

    def go_round(self, statement, first, loop):
        before, changes = None, 0
        while True:
            self.course = []
            if not self.look(statement[1]):
                return
            self.turns[loop] += 1
            self.through(statement[2], first)
            if before is not None and before != self.course:
                changes += 1
                if changes > 60:
                    raise Restless(loop)
            before = self.course

    def look(self, test):
        found = super().look(test)
        self.course.append((test, self.shape()))
        return found

    def shape(self):
        return self.shape_of(tuple(sorted(self.at.items())), tuple(sorted(self.arrows.items())))


def loops_number(tree):
    """How many loops there are in a tree."""
    return sum((one[0] == "while") + loops_number(one[2]) + loops_number(one[3] if len(one) > 3 else ())
               for one in tree if one[0] in ("if", "while"))
