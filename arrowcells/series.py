"""Series: the plans of blocks in their order, one behind the other."""

from heapq import heappop, heappush

from arrowcells.blocks import least_row
from arrowcells.rounds import next_number


class Series:
    """The plans of a dict of shapes and lists of blocks that have not been told as yet."""

    def __init__(self, found):
        self.queue = []
        self.latest = None
        for shape, blocks in found.items():
            for block in blocks:
                row = least_row(block)
                heappush(self.queue, (sum(row), shape, row, block, 0))

    def following(self):
        """The shape and the row of the next plan, None if there is none."""
        while self.queue:
            size, shape, row, block, first = heappop(self.queue)
            # Only numbers from the one that was raised last on are raised, so that no row comes twice.
            for at in range(first, len(row)):
                more = next_number(block[at], row[at])
                if more is not None:
                    raised = row[:at] + (more,) + row[at + 1:]
                    heappush(self.queue, (size + more - row[at], shape, raised, block, at))
            # The same plan may come out of several blocks, one time behind the other.
            if (shape, row) != self.latest:
                self.latest = (shape, row)
                return shape, row
        return None
