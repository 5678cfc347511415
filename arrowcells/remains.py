"""What a run leaves behind, told without the numbers of the places of the cells that it has made."""


class Remains:
    """A heap behind a run, where the names with some letters are left and helpers are not."""

    def __init__(self, heap, letters):
        self.arrows = heap.arrows
        self.news = heap.news
        self.leads = [heap.places[letter] for letter in letters]
        self.old = [cell for cell in sorted(heap.arrows) if cell not in heap.news]
        # New places to which names and old cells lead, numbered in the order in which they are come to.
        self.labels = {}
        for place in self.leads + [self.arrows[cell] for cell in self.old]:
            self.put_labels(place)
        self.loose = [cell for cell in self.arrows if cell in self.news and cell not in self.labels]
        self.rings = self.loose_rings()

    def put_labels(self, place):
        """Gives labels to a place and those behind it, as far as they are new."""
        while place in self.news and place not in self.labels:
            self.labels[place] = f"new {len(self.labels)}"
            place = self.arrows.get(place)

    def told(self):
        """A value that is equal for two runs exactly if they leave the same up to their new cells."""
        leads = [self.called(place) for place in self.leads]
        old = [(cell, self.called(self.arrows[cell])) for cell in self.old]
        labelled = [self.called(self.arrows[place]) if place in self.arrows else "gone" for place in self.labels]
        roots = {}
        for cell in self.loose:
            if self.arrows[cell] not in self.loose:
                roots[self.arrows[cell]] = True
        hanging = sorted([f"{self.called(place)} {self.tree_at(place)}" for place in roots])
        rings = sorted([_first_turn([self.tree_at(cell) for cell in ring]) for ring in self.rings])
        return leads, old, labelled, hanging, rings

    def called(self, place):
        """What a place is called: an old one by its number, a new one by its label if it has one."""
        return self.labels.get(place, "gone") if place in self.news else place

    def loose_rings(self):
        """The list of the rings of loose cells, each as the list of its cells along the arrows."""
        rings, passed = [], {}
        for first in self.loose:
            row, place = [], first
            while place in self.arrows and place not in passed and place not in row:
                row.append(place)
                place = self.arrows[place]
            for cell in row:
                passed[cell] = True
            if place in row:
                rings.append(row[row.index(place):])
        return rings

    def tree_at(self, place):
        """The text of the tree of the loose cells that lead to a place; those on rings are left out."""
        on_rings = [cell for ring in self.rings for cell in ring]
        branches = [self.tree_at(cell) for cell in self.loose if self.arrows[cell] == place and cell not in on_rings]
        inner = "".join(sorted(branches))
        return f"({inner})"


def _first_turn(texts):
    """The least of the lists that begin at some text and go round."""
    return min([texts[at:] + texts[:at] for at in range(len(texts))])
