"""Regions: sets of rows of numbers, as unions of boxes that are kept in one form.

A mask is a set of numbers, in a form that a frame or a field works with. A region over no
numbers is NOTHING or ALL. A region over more numbers has edges, which are pairs of a mask and the
region of the rows behind it: the first number of a row lies in the mask of one edge at most.
Regions are told by their numbers in a table, so that equal regions have equal numbers.
"""

NOTHING = 0
ALL = 1


class Regions:
    """A table of regions, whose masks are those of a frame or a field."""

    def __init__(self, field):
        self.field = field
        self.edges = [(), ()]
        self.numbers = {}
        self.known = {}

    def made(self, edges):
        """The region with these edges, whose masks have no number in common."""
        masks = {}
        for mask, behind in edges:
            if mask != self.field.empty and behind != NOTHING:
                masks[behind] = self.field.joint(masks[behind], mask) if behind in masks else mask
        if not masks:
            return NOTHING
        row = tuple([(masks[behind], behind) for behind in sorted(masks)])
        if row not in self.numbers:
            self.numbers[row] = len(self.edges)
            self.edges.append(row)
        return self.numbers[row]

    def box(self, masks):
        """The region of the rows whose numbers lie in the masks, one for each number."""
        region = ALL
        for mask in reversed(masks):
            region = self.made([(mask, region)])
        return region

    def either(self, region, other):
        """The union of two regions."""
        if region == NOTHING or region == other:
            return other
        if other == NOTHING:
            return region
        return self.joined("either", region, other)

    def meet(self, region, other):
        """The intersection of two regions."""
        if region == NOTHING or other == NOTHING:
            return NOTHING
        return region if region == other else self.joined("meet", region, other)

    def minus(self, region, other):
        """The rows of the first region that are not in the other one."""
        if region == NOTHING or region == other:
            return NOTHING
        return region if other == NOTHING else self.joined("minus", region, other)

    def joined(self, word, region, other):
        """The region that a word makes of two regions that are not empty."""
        key = (word, region, other)
        if key not in self.known:
            self.known[key] = self.made(self.joined_edges(word, region, other))
        return self.known[key]

    def joined_edges(self, word, region, other):
        """The edges of the region that a word makes of two regions over at least one number."""
        edges = []
        taken = self.field.empty
        for mask, behind in self.edges[region]:
            left = mask
            for other_mask, other_behind in self.edges[other]:
                both = self.field.both(mask, other_mask)
                if both != self.field.empty:
                    edges.append((both, self.made_of(word, behind, other_behind)))
                    left = self.field.without(left, both)
            if word != "meet":
                edges.append((left, behind))
            taken = self.field.joint(taken, mask)
        if word == "either":
            edges.extend([(self.field.without(mask, taken), behind) for mask, behind in self.edges[other]])
        return edges

    def made_of(self, word, region, other):
        """What a word, either, meet or minus, makes of two regions."""
        if word == "either":
            return self.either(region, other)
        return self.meet(region, other) if word == "meet" else self.minus(region, other)

    def boxes_in(self, region):
        """The list of the tuples of masks of a region, of which no two hold the same row."""
        if region == ALL:
            return [()]
        return [(mask,) + masks for mask, behind in self.edges[region] for masks in self.boxes_in(behind)]
