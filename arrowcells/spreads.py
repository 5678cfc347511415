"""Spreads: the lengths and numbers of lost cells with which a saying is kept, for one shape each.

A row of numbers has one length for each stretch, and then the number of lost cells.
"""

from arrowcells.drawings import drawings_of
from arrowcells.frames import DONE, Frame
from arrowcells.lengths import common_step, rounded_words, words_in
from arrowcells.pictures import lengths_texts
from arrowcells.regions import NOTHING, Regions
from arrowcells.sayings import pictures_in
from arrowcells.shapes import stretches_number

NOBODY = -1


class Spread:
    """The rows of one saying, for any shapes."""

    def __init__(self, tree):
        texts = [text for picture in pictures_in(tree) for text in lengths_texts(picture)]
        words = [word for text in texts for word in words_in(text)]
        top = max([first for first, _ in words], default=0) + 1
        step = common_step(words)
        # Two hidden letters part a stretch into three; each sum of two parts begins to come
        # round within two steps behind the sum of their starts.
        self.frame = Frame(3 * top + 4 * step, step)
        self.regions = Regions(self.frame)
        self.tree = tree

    def boxes_of(self, knots):
        """The list of the boxes for a shape: pairs of the tuple for the lengths and the Lengths for the lost cells."""
        found = []
        for row in self.regions.boxes_in(self.kept(knots, self.tree)):
            sets = tuple([self.frame.lengths_of(mask) for mask in row])
            found.append((sets[:-1], sets[-1]))
        return found

    def kept(self, knots, tree):
        """The region of the rows with which the saying with this tree is kept."""
        if tree[0] == "picture":
            return self.fitting(knots, tree)
        if tree[0] == "not":
            every_row = self.regions.box([self.frame.positive] * stretches_number(knots) + [self.frame.whole])
            return self.regions.minus(every_row, self.kept(knots, tree[1]))
        regions = [self.kept(knots, part) for part in tree[1]]
        joined = regions[0]
        for region in regions[1:]:
            joined = self.regions.meet(joined, region) if tree[0] == "and" else self.regions.either(joined, region)
        return joined

    def fitting(self, knots, picture):
        """The region of the rows with which a picture fits."""
        _, hidden, items = picture
        chains = [item for item in items if item[0] == "chain"]
        masks = [self.mask_of(item[3]) for item in chains]
        has_rest = ("rest",) in items
        lost = self.frame.whole if has_rest else 1
        for item in items:
            if item[0] == "lost":
                lost = lost & self.mask_of(item[1])
        shares = {}
        for drawing in drawings_of(knots, hidden):
            if drawing.has_items(items):
                for owners in drawing.sharings(chains, masks):
                    shares[_share(drawing, owners, stretches_number(knots))] = True
        region = NOTHING
        for share in shares:
            if has_rest or not any([NOBODY in parts for parts in share]):
                region = self.regions.either(region, Sharing(self, share, lost).region(masks))
        return region

    def mask_of(self, text):
        """The mask of the set of a lengths text."""
        words = words_in(text)
        return self.frame.mask_of(rounded_words(words, common_step(words)))


def _share(drawing, owners, many):
    """The tuple that tells, for each stretch, the ascending tuple of the chains to which its pieces belong."""
    rows = [[] for _ in range(many)]
    for node, stretch in enumerate(drawing.stretches):
        if stretch is not None:
            rows[stretch].append(owners.get(node, NOBODY))
    return tuple([tuple(sorted(row)) for row in rows])


class Sharing:
    """The rows for which stretches can be parted among the chains as a share tells."""

    def __init__(self, spread, share, lost):
        self.frame = spread.frame
        self.regions = spread.regions
        self.share = share
        self.lost = lost
        self.known = {}
        self.lasts = {}
        for stretch, parts in enumerate(share):
            for index, owner in enumerate(parts):
                self.lasts[owner] = (stretch, index)

    def region(self, masks):
        """The region of these rows, where the lengths of the chains lie in the masks."""
        return self.region_from(0, tuple([mask if owner in self.lasts else DONE for owner, mask in enumerate(masks)]))

    def region_from(self, stretch, left):
        """The region of what may stand from a stretch on, where so much is left over for the chains."""
        if stretch == len(self.share):
            return self.regions.box([self.lost])
        key = (stretch, left)
        if key not in self.known:
            masks = {}
            for after, mask in self.parted(stretch, left).items():
                region = self.region_from(stretch + 1, after)
                masks[region] = masks.get(region, 0) | mask
            found = NOTHING
            for region, mask in masks.items():
                found = self.regions.either(found, self.regions.made([(mask, region)]))
            self.known[key] = found
        return self.known[key]

    def parted(self, stretch, left):
        """The dict of what is left over for the chains behind a stretch, and for which lengths of it."""
        found = {left: 1}
        for index, owner in enumerate(self.share[stretch]):
            more = {}
            for before, mask in found.items():
                for numbers, after in self.taken(before, owner, self.lasts[owner] == (stretch, index)):
                    more[after] = more.get(after, 0) | self.frame.sums(mask, numbers)
            found = more
        return found

    def taken(self, left, owner, is_last):
        """The list of pairs (lengths of a part of the owner, what is left over for the chains then)."""
        if owner == NOBODY:
            return [(self.frame.positive, left)]
        if is_last:
            falls = [(left[owner] & self.frame.positive, DONE)]
        else:
            falls = self.frame.falls(left[owner])
        return [(numbers, left[:owner] + (after,) + left[owner + 1:]) for numbers, after in falls]
