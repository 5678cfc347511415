"""Ways, reached and lost cells ([8])."""

import unittest
from random import Random

from arrowcells.stores import Store, read_store
from arrowcells.ways import first_common, lost, reached, tail_and_ring, way, way_end
from tests import naive
from tests.helpers import Asking, odd_values, some_stores

STORE = read_store("x=4 y=2 | 2>7 4>2 5>5 7>2 9>0")


class WaysTest(unittest.TestCase, Asking):
    def test_a_list(self):
        store = read_store("x=3 | 1>0 3>7 7>1 8>1")
        self.assertEqual((way(store, "x"), way_end(store, "x"), tail_and_ring(store, "x")), ((3, 7, 1), 0, None))
        self.assertEqual((reached(store), lost(store)), ((1, 3, 7), (8,)))

    def test_a_way_to_a_gone_place(self):
        store = read_store("x=3 | 3>9")
        self.assertEqual((way(store, "x"), way_end(store, "x"), tail_and_ring(store, "x")), ((3,), 9, None))

    def test_ways_without_cells(self):
        store = read_store("x=0 y=9 | 1>1")
        self.assertEqual([way(store, "x"), way_end(store, "x"), tail_and_ring(store, "x")], [(), 0, None])
        self.assertEqual([way(store, "y"), way_end(store, "y"), tail_and_ring(store, "y")], [(), 9, None])
        self.assertEqual((reached(store), lost(store)), ((), (1,)))

    def test_rings_and_tails(self):
        self.assertEqual([way(STORE, "x"), way_end(STORE, "x"), tail_and_ring(STORE, "x")], [(4, 2, 7), 2, (1, 2)])
        self.assertEqual([way(STORE, "y"), way_end(STORE, "y"), tail_and_ring(STORE, "y")], [(2, 7), 2, (0, 2)])
        self.assertEqual((reached(STORE), lost(STORE)), ((2, 4, 7), (5, 9)))
        own = read_store("x=1 | 1>1")
        self.assertEqual([way(own, "x"), way_end(own, "x"), tail_and_ring(own, "x")], [(1,), 1, (0, 1)])

    def test_first_common(self):
        store = read_store("x=1 y=4 z=0 | 1>2 2>3 3>0 4>3")
        self.assertEqual([first_common(store, "x", "y"), first_common(store, "y", "x")], [3, 3])
        self.assertEqual([first_common(store, "x", "z"), first_common(store, "z", "z")], [None, None])
        self.assertEqual(first_common(store, "x", "x"), 1)
        ring = read_store("x=1 y=5 | 1>2 2>3 3>2 5>3")
        self.assertEqual([first_common(ring, "x", "y"), first_common(ring, "y", "x")], [2, 3])
        self.assertEqual(first_common(store=ring, letter="x", other="y"), 2)
        gone = read_store("x=9 y=9 | none")
        self.assertIsNone(first_common(gone, "x", "y"))

    def test_500_cells(self):
        row = Store((("x", 1),), tuple((place, place + 1) for place in range(1, 500)) + ((500, 1),))
        self.assertEqual((way(row, "x"), tail_and_ring(row, "x")), (tuple(range(1, 501)), (0, 500)))

    def test_against_the_plainest_way(self):
        for store in some_stores(Random(2), "xyz", 300):
            arrows = dict(store.cells)
            cells = naive.reached(store.names, arrows)
            self.assertEqual(reached(store), tuple(sorted(cells)))
            self.assertEqual(lost(store), tuple(sorted(set(arrows) - cells)))
            for letter, place in store.names:
                expected, behind = naive.way(arrows, place)
                self.assertEqual((way(store, letter), way_end(store, letter)), (tuple(expected), behind))
                pair = (expected.index(behind), len(expected) - expected.index(behind)) if behind in arrows else None
                self.assertEqual(tail_and_ring(store, letter), pair)
                for other, start in store.names:
                    others = naive.way(arrows, start)[0]
                    common = [cell for cell in expected if cell in others]
                    self.assertEqual(first_common(store, letter, other), common[0] if common else None)

    def test_no_store(self):
        for value in odd_values(but=(Store,)):
            for action in (way, way_end, tail_and_ring):
                self.asks("NotAStore", value, action, value, "x")
                self.asks("NotAStore", value, action, value, None)
            self.asks("NotAStore", value, first_common, value, None, None)
            self.asks("NotAStore", value, reached, value)
            self.asks("NotAStore", value, lost, value)

    def test_no_name(self):
        for value in list(odd_values()) + ["z", "END", ("x",)]:
            for action in (way, way_end, tail_and_ring):
                self.asks("UnknownName", value, action, STORE, value)
            self.asks("UnknownName", value, first_common, STORE, value, "w")
            self.asks("UnknownName", value, first_common, STORE, "x", value)


if __name__ == "__main__":
    unittest.main()
