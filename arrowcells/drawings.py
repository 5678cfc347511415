"""Drawings: shapes in which the hidden letters of a picture have places.

A hidden letter stands at a knot, or within a stretch, which it cuts in two. The nodes of a drawing
are the knots and these places; the piece of a cell node consists of the cells from it on, before
the next node.
"""


class Drawing:
    """Nodes with the numbers of the next ones (None behind the ways), and the nodes of the letters."""

    def __init__(self, signs, targets, stretches, nodes):
        self.signs = signs
        self.targets = targets
        # The number of the stretch in which the piece of each node lies, None for no cell.
        self.stretches = stretches
        self.nodes = nodes

    def drawings_with(self, letter):
        """The list of all drawings in which a hidden letter has a place, too."""
        found = []
        for node, target in enumerate(self.targets):
            found.append(Drawing(self.signs, self.targets, self.stretches, {**self.nodes, letter: node}))
            if target is not None:
                found.append(self.cut(node, letter))
        return found

    def cut(self, node, letter):
        """The drawing in which a letter stands within the piece of a node."""
        fresh = len(self.targets)
        targets = self.targets[:node] + [fresh] + self.targets[node + 1:] + [self.targets[node]]
        stretches = self.stretches + [self.stretches[node]]
        return Drawing(self.signs + [">"], targets, stretches, {**self.nodes, letter: fresh})

    def has_items(self, rows):
        """Whether the items hold that compare places or tell gone ones."""
        for item in rows:
            if item[0] == "=" and not self.is_at(self.nodes[item[1]], item[2]):
                return False
            if item[0] == "!=" and self.is_at(self.nodes[item[1]], item[2]):
                return False
            if item[0] == "gone" and self.signs[self.nodes[item[1]]] != "!":
                return False
        return True

    def is_at(self, node, word):
        """Whether a node is END or the one of a letter, whichever the word tells."""
        return self.signs[node] == "." if word == "END" else node == self.nodes[word]

    def runs(self, letter, word, may_be_empty):
        """The list of the tuples of nodes whose pieces a chain from a letter to a letter or END can have."""
        node = self.nodes[letter]
        found = [()] if may_be_empty and self.is_at(node, word) else []
        passed = []
        while self.targets[node] is not None and node not in passed:
            passed.append(node)
            node = self.targets[node]
            if self.is_at(node, word):
                return found + [tuple(passed)]
        return found

    def sharings(self, chains, masks):
        """The list of the dicts of nodes and numbers of chains, for all ways to let the chains lie apart."""
        found = [{}]
        for number, item in enumerate(chains):
            runs = self.runs(item[1], item[2], masks[number] & 1 == 1)
            found = [_owned(owners, run, number) for owners in found for run in runs
                     if not any([node in owners for node in run])]
        return found


def _owned(owners, run, number):
    """The owners of nodes, with a chain as the owner of the nodes of a run."""
    more = dict(owners)
    for node in run:
        more[node] = number
    return more


def drawings_of(knots, hidden):
    """The list of all drawings of a shape with these knots in which the hidden letters have places."""
    nodes = {letter: number for number, (names, _, _) in enumerate(knots) for letter in names}
    signs = [sign for _, sign, _ in knots]
    stretches = []
    for sign in signs:
        stretches.append(len(stretches) - stretches.count(None) if sign == ">" else None)
    found = [Drawing(signs, [target for _, _, target in knots], stretches, nodes)]
    for letter in hidden:
        found = [more for drawing in found for more in drawing.drawings_with(letter)]
    return found
