"""Stores: names, cells, places, texts ([3], [4], [5], [7])."""

import unittest

from arrowcells.stores import Store, read_store
from tests.helpers import OBJECTS, Asking, nested, nested_lists, odd_values, some_stores
from random import Random

NAMES = (("x", 4), ("y", 2))
CELLS = ((2, 7), (4, 2), (5, 5), (7, 2), (9, 0))
MANY = tuple((place, 0) for place in range(1, 501))


class StoreTest(unittest.TestCase, Asking):
    def test_attributes(self):
        store = Store(NAMES, CELLS)
        self.assertEqual((store.names, store.cells, store.letters), (NAMES, CELLS, "xy"))
        self.assertEqual(store.text, "x=4 y=2 | 2>7 4>2 5>5 7>2 9>0")
        self.assertEqual(Store((("b", 0),), ()).text, "b=0 | none")
        self.assertEqual(Store(cells=CELLS, names=NAMES), store)

    def test_one_to_four_names(self):
        four = (("a", 0), ("b", 1), ("y", 999), ("z", 999))
        self.assertEqual(Store(four[:1], ()).letters, "a")
        self.assertEqual(Store(four, ()).letters, "abyz")
        five = (("a", 0), ("b", 0), ("c", 0), ("d", 0), ("e", 0))
        for names in ((), five):
            self.asks("InvalidNames", names, Store, names, ())

    def test_wrong_names(self):
        wrong = [(("x", 1000),), (("x", -1),), (("x", True),), (("x", "1"),), (("X", 1),), (("xy", 1),), (("", 1),),
                 (("x", 1), ("x", 2)), (("y", 1), ("x", 2)), (["x", 1],), [("x", 1)], (("x", 1, 2),), (("x",),),
                 ("x1",), ((1, "x"),), (("x", None),), (("x", (1,)),), {"x": 1}, (("x", 1), None), (("1", 1),),
                 ((None, 1),), ((("x",), 1),)]
        for names in wrong:
            self.asks("InvalidNames", names, Store, names, ())
        self.asks_for_all("InvalidNames", odd_values(), lambda names: Store(names, ()))

    def test_names_are_checked_before_cells(self):
        self.asks("InvalidNames", None, Store, None, None)
        self.points("InvalidCells", None, Store, NAMES, None)

    def test_cells_that_are_no_tuple(self):
        for cells in odd_values(but=(tuple,)):
            self.points("InvalidCells", None, Store, NAMES, cells)
        self.points("InvalidCells", None, Store, NAMES, [(1, 0)])

    def test_the_first_wrong_cell_is_told(self):
        good = (1, 0)
        for wrong in ((0, 1), (1, 1000), (1000, 1), (-1, 0), (1, -1), (True, 0), (1, False), [1, 0], (1,), (1, 0, 0),
                      None, "1>0", ("1", 0), (1, "0"), (1, None), (None, 1), ((1,), 0), nested(13), nested_lists(13)):
            self.points("InvalidCells", 0, Store, NAMES, (wrong,))
            self.points("InvalidCells", 1, Store, NAMES, (good, wrong))
            self.points("InvalidCells", 1, Store, NAMES, (good, wrong, good, None))
        for value in OBJECTS:
            self.points("InvalidCells", 0, Store, NAMES, (value,))

    def test_cells_ascend_by_unlike_places(self):
        self.points("InvalidCells", 1, Store, NAMES, ((2, 0), (2, 1)))
        self.points("InvalidCells", 2, Store, NAMES, ((2, 0), (3, 1), (1, 0)))
        self.points("InvalidCells", 2, Store, NAMES, ((2, 0), (3, 1), (2, 0), (0, 0)))
        self.assertEqual(Store(NAMES, ((1, 0), (999, 999))).arrow(999), 999)

    def test_500_cells_and_the_501st(self):
        self.assertEqual(len(Store(NAMES, MANY).cells), 500)
        self.points("InvalidCells", 500, Store, NAMES, MANY + ((501, 0),))
        self.points("InvalidCells", 500, Store, NAMES, MANY + (None, None))
        self.points("InvalidCells", 3, Store, NAMES, MANY[:3] + (None,) + MANY[4:] + ((501, 0),))

    def test_equal_exactly_by_names_and_cells(self):
        store = Store(NAMES, CELLS)
        self.assertTrue(store == Store(NAMES, CELLS) and not store != Store(NAMES, CELLS))
        for other in (Store(NAMES, CELLS[:4]), Store((("x", 4), ("z", 2)), CELLS), Store((("x", 4), ("y", 4)), CELLS),
                      Store(NAMES[:1], CELLS), Store(NAMES, CELLS[:4] + ((9, 1),))):
            self.assertTrue(store != other and not store == other)
        for other in odd_values(but=(Store,)):
            self.assertIs(store == other, False)
            self.assertIs(store != other, True)
        self.assertTrue(store)
        self.assertTrue(Store((("x", 0),), ()))

    def test_at(self):
        store = Store(NAMES, CELLS)
        self.assertEqual((store.at("x"), store.at("y"), store.at(letter="y")), (4, 2, 2))
        self.asks_for_all("UnknownName", odd_values(), store.at)
        self.asks_for_all("UnknownName", ["z", "END", "xy", 4, ["x"], ("x",)], store.at)

    def test_arrow(self):
        store = Store(NAMES, CELLS)
        self.assertEqual([store.arrow(place) for place in (0, 1, 2, 9, 999)], [None, None, 7, 0, None])
        self.assertEqual(store.arrow(place=4), 2)
        self.asks_for_all("InvalidPlace", odd_values(), store.arrow)
        self.asks_for_all("InvalidPlace", [1000, -1, True, "1", (1,), None], store.arrow)

    def test_is_gone(self):
        store = Store((("x", 3), ("y", 0)), ((1, 0), (2, 8), (4, 2)))
        found = [place for place in range(1000) if store.is_gone(place)]
        self.assertEqual(found, [3, 8])
        self.assertIs(store.is_gone(place=8), True)
        self.assertIs(store.is_gone(0), False)
        self.asks_for_all("InvalidPlace", odd_values(), store.is_gone)
        self.asks_for_all("InvalidPlace", [1000, -1, False], store.is_gone)

    def test_gone_where_a_name_or_a_lost_arrow_leads(self):
        self.assertIs(Store((("x", 999),), ()).is_gone(999), True)
        self.assertIs(Store((("x", 0),), ((5, 6),)).is_gone(6), True)
        self.assertIs(Store((("x", 0),), ((5, 6),)).is_gone(5), False)
        self.assertIs(Store((("x", 0),), ((5, 6),)).is_gone(7), False)


class ReadStoreTest(unittest.TestCase, Asking):
    def test_reads_what_text_tells(self):
        for store in some_stores(Random(1), "abz", 200):
            self.assertEqual(read_store(store.text), store)
        self.assertEqual(read_store(text="x=999 | none"), Store((("x", 999),), ()))
        full = Store((("a", 0), ("b", 0), ("c", 0), ("d", 1)), MANY)
        self.assertEqual(read_store(full.text), full)

    def test_other_texts(self):
        wrong = ["x=1", "x=1 |", "x=1 | ", " | none", "x=1 |none", "x=1| none", "x=1  | none", "x=1 |  none", "| none",
                 " x=1 | none", "x=1 | none ", "x=01 | none", "x=+1 | none", "x=1 | 1>00", "x=1000 | none", "x=1 | 0>1",
                 "x=1 | 1>1000", "x=1 | 2>0 1>0", "x=1 | 1>0 1>0", "y=1 x=1 | none", "x=1 x=2 | none", "x=1,y=1 | none",
                 "x=1 | none | none", "x=1 | none 1>0", "x=1 | 1>0 none", "x=1 | 1>", "x=1 | >1", "x= | none",
                 "=1 | none", "x=1 | 1>0  2>0", "x=1 | 1>2>3", "x=1=2 | none", "x1 | none", "x=-1 | none", "none | none",
                 "x=1 | 1=0", "x>1 | 1>0", "a=0 b=0 c=0 d=0 e=0 | none", "xy=1 | none", "x=1 y | none", "x=1_0 | none",
                 "X=1 | none", "x=1 | x>1", "x=" + "1" * 3990 + " | none", "x=1 | 1.0>0", "none", "x=1 | None"]
        self.asks_for_all("InvalidText", wrong, read_store)
        long = "x=0 | " + " ".join(f"{place}>0" for place in range(1, 502))
        self.asks("InvalidText", long, read_store, long)

    def test_any_other_value(self):
        self.asks_for_all("InvalidText", odd_values(), read_store)


if __name__ == "__main__":
    unittest.main()
