"""Regions: sets of rows of numbers, as unions of boxes that are kept in one form.

A mask is a set of numbers as bits, in a form that all masks of a table share. A region over no
numbers is NOTHING or ALL. A region over more numbers has edges, which are pairs of a mask and the
region of the rows behind it: the first number of a row lies in the mask of one edge at most.
Regions are told by their numbers in a table, so that equal regions have equal numbers.
"""

NOTHING = 0
ALL = 1


class Regions:
    """A table of regions."""

    def __init__(self):
        self.edges = [(), ()]
        self.numbers = {}
        self.known = {}

    def made(self, edges):
        """The region with these edges, whose masks have no number in common."""
        masks = {}
        for mask, behind in edges:
            if mask and behind != NOTHING:
                masks[behind] = masks.get(behind, 0) | mask
        if not masks:
            return NOTHING
        row = tuple([(masks[behind], behind) for behind in sorted(masks)])
        if row not in self.numbers:
            self.numbers[row] = len(self.edges)
            self.edges.append(row)
        return self.numbers[row]

    def box(self, masks):
        """The region of the rows whose numbers lie in the masks, one for each number."""
        region = ALL
        for mask in reversed(masks):
            region = self.made([(mask, region)])
        return region

    def either(self, region, other):
        """The union of two regions."""
        if region == NOTHING or region == other:
            return other
        if other == NOTHING:
            return region
        return self.joined("either", region, other)

    def meet(self, region, other):
        """The intersection of two regions."""
        if region == NOTHING or other == NOTHING:
            return NOTHING
        return region if region == other else self.joined("meet", region, other)

    def minus(self, region, other):
        """The rows of the first region that are not in the other one."""
        if region == NOTHING or region == other:
            return NOTHING
        return region if other == NOTHING else self.joined("minus", region, other)

    def joined(self, word, region, other):
        """The region that a word makes of two regions that are not empty."""
        key = (word, region, other)
        if key not in self.known:
            self.known[key] = self.made(self.joined_edges(word, region, other))
        return self.known[key]

    def joined_edges(self, word, region, other):
        """The edges of the region that a word makes of two regions over at least one number."""
        edges = []
        taken = 0
        for mask, behind in self.edges[region]:
            left = mask
            for other_mask, other_behind in self.edges[other]:
                if mask & other_mask:
                    edges.append((mask & other_mask, self.joined_behind(word, behind, other_behind)))
                    left = left & ~other_mask
            if word != "meet":
                edges.append((left, behind))
            taken = taken | mask
        if word == "either":
            edges.extend([(mask & ~taken, behind) for mask, behind in self.edges[other]])
        return edges

    def joined_behind(self, word, region, other):
        """What a word makes of the regions behind two edges."""
        if word == "either":
            return self.either(region, other)
        return self.meet(region, other) if word == "meet" else self.minus(region, other)

    def boxes_in(self, region):
        """The list of the tuples of masks of a region, of which no two hold the same row."""
        if region == ALL:
            return [()]
        return [(mask,) + masks for mask, behind in self.edges[region] for masks in self.boxes_in(behind)]
