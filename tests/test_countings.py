"""Numbers of stores, and listed stores ([45], [46])."""

import itertools
import unittest
from random import Random

from arrowcells.countings import place_of, store_at, stores_number
from arrowcells.lots import Lot, every, has_plan, has_store, lot_of
from arrowcells.plans import plan_of, stretches_of
from arrowcells.stores import Store, read_store
from tests.chosen import some_lot, some_shapes
from tests.helpers import LOT, STORE, Asking, box, odd_values, place_of_plan, some_stores
from tests.test_runs import row_of

ALL = every("x")


def stores_on(names, places):
    """All stores on so many places."""
    for leads in itertools.product(range(places + 1), repeat=len(names)):
        for arrows in itertools.product(range(places + 1), repeat=places):
            yield Store(tuple(zip(names, leads)), tuple(zip(range(1, places + 1), arrows)))


def place_in_list(store):
    """What tells the place of a store in the order of [46]."""
    cells = tuple(cell for stretch in stretches_of(store) for cell in stretch)
    return place_of_plan(plan_of(store)), cells, tuple(arrow for cell, arrow in store.cells if cell not in cells)


class CountingsTest(unittest.TestCase, Asking):
    def check(self, lot, stores, places):
        """All that is told of the stores on so many places, of which the ordered list is told."""
        self.assertEqual(stores_number(lot, places), len(stores))
        for index, store in enumerate(stores):
            self.assertEqual(store_at(lot, places, index), store)
            self.assertEqual(place_of(lot, store), index)
        self.asks("InvalidIndex", len(stores), store_at, lot, places, len(stores))

    def test_all_stores(self):
        for names, most in (("x", 3), ("xy", 2), ("ay", 2)):
            for places in range(most + 1):
                stores = sorted(stores_on(names, places), key=place_in_list)
                self.assertEqual(len(stores), (places + 1) ** (len(names) + places))
                self.check(every(names), stores, places)

    def test_lots_at_random(self):
        random = Random(451)
        found = 0
        for names, many, most in (("x", 40, 3), ("xy", 40, 2), ("abc", 10, 2), ("abcd", 5, 2)):
            shapes = some_shapes(random, names)
            stores = {places: sorted(stores_on(names, places), key=place_in_list) for places in range(most + 1)}
            for _ in range(many):
                lot = some_lot(random, names, random.sample(shapes, min(len(shapes), 30)), 9, 1)
                for places in range(most + 1):
                    listed = [store for store in stores[places] if has_store(lot, store)]
                    found += len(listed)
                    self.check(lot, listed, places)
                    for store in random.sample(stores[places], min(10, len(stores[places]))):
                        self.assertIs(place_of(lot, store) is None, not has_store(lot, store))
        self.assertGreater(found, 1000)

    def test_told_numbers(self):
        self.assertEqual([stores_number(ALL, places) for places in range(4)], [1, 4, 27, 256])
        self.assertEqual(stores_number(ALL, 12), 13 ** 13)
        self.assertEqual(stores_number(every("xy"), 12), 13 ** 14)
        # A list of all cells: their places may come in any order.
        self.assertEqual(stores_number(lot_of("chain x END 12", "x"), 12), 479001600)
        self.assertEqual(stores_number(lot_of("chain x END 4 * lost 2 * rest", "x"), 6), 6 * 5 * 4 * 3 * 7 * 7)
        self.assertEqual(stores_number(lot_of("gone x * rest", "x"), 5), 0)
        self.assertEqual(stores_number(places=3, lot=Lot("x", ())), 0)
        # Boxes may hold the same plans.
        twice = Lot("x", (box("x>1 -.", "1+", "0+"), box("x>1 -.", "2 3", "0 1")))
        self.assertEqual(stores_number(twice, 4), stores_number(Lot("x", twice.boxes[:1]), 4))

    def test_numbers_of_lost_cells_that_depend_on_lengths(self):
        lot = Lot("xy", (box("x>1 -. y>1", "1", "1", "0 2"), box("x>1 -. y>1", "1", "2", "1"), box("x>1 -. y>1", "2", "1", "1 0"),
                         box("x>1 -. y>1", "2", "2", "0"), box("x>1 ->1 y.", "1", "1 3", "2"), box("x>1 ->1 y.", "3", "1", "0"),
                         box("x>1 ->1 y.", "2", "1 2", "1"), box("x. y!", "4")))
        for places in (3, 4):
            stores = sorted((store for store in stores_on("xy", places) if has_store(lot, store)), key=place_in_list)
            self.assertGreater(len(stores), 5)
            self.check(lot, stores, places)

    def test_told_places(self):
        self.assertEqual([store_at(ALL, 1, index).text for index in range(4)], ["x=0 | 1>0", "x=0 | 1>1", "x=1 | 1>1", "x=1 | 1>0"])
        self.assertEqual(store_at(index=0, places=0, lot=every("xy")).text, "x=0 y=0 | none")
        self.assertEqual(place_of(store=read_store("x=2 | 1>2 2>1"), lot=ALL), 16)
        lists = lot_of("chain x END 0+", "x")
        self.assertEqual([store_at(lists, 3, index).text for index in range(6)],
                         ["x=1 | 1>2 2>3 3>0", "x=1 | 1>3 2>0 3>2", "x=2 | 1>3 2>1 3>0", "x=2 | 1>0 2>3 3>1", "x=3 | 1>2 2>0 3>1",
                          "x=3 | 1>0 2>1 3>2"])
        for text in ("x=1 | 2>0", "x=5 | 1>0", "x=1 | 1>2", "x=1 | 1>0 3>0", "x=0 | 1>7", "x=0 | 2>0", "x=0 | 1>2 2>3"):
            self.assertIsNone(place_of(ALL, read_store(text)), text)
        self.assertIsNone(place_of(lists, read_store("x=1 | 1>1")))
        self.assertIsNone(place_of(lists, read_store("x=0 | 1>0")))
        # The same store may be listed on as many places as it has cells alone.
        self.assertEqual(place_of(ALL, read_store("x=0 | none")), 0)

    def test_many_places(self):
        random = Random(461)
        lot = every("xy")
        for _ in range(60):
            places = random.randint(8, 12)
            index = random.randrange(stores_number(lot, places))
            store = store_at(lot, places, index)
            self.assertEqual(place_of(lot, store), index)
            other = store_at(lot, places, random.randrange(stores_number(lot, places)))
            self.assertIs(place_of(lot, other) < index, place_in_list(other) < place_in_list(store))
        self.assertEqual(place_of(lot, store_at(lot, 12, 13 ** 14 - 1)), 13 ** 14 - 1)
        lists = lot_of("chain x END 0+", "x")
        self.assertEqual(store_at(lists, 12, 0), row_of(12))
        self.assertEqual(store_at(lists, 12, 479001599).text.split(" ")[0], "x=12")

    def test_stores_that_are_listed(self):
        random = Random(462)
        for store in some_stores(random, "xy", 400):
            cells = [place for place, _ in store.cells]
            led_to = [place for _, place in store.names + store.cells]
            is_listed = cells == list(range(1, len(cells) + 1)) and all(place <= len(cells) for place in led_to)
            self.assertIs(place_of(every("xy"), store) is not None, is_listed)
            self.assertTrue(has_plan(every("xy"), plan_of(store)))

    def test_errors(self):
        for value in odd_values(but=(Lot,)):
            self.asks("NotALot", value, stores_number, value, None)
            self.asks("NotALot", value, store_at, value, None, None)
            self.asks("NotALot", value, place_of, value, None)
        for value in list(odd_values(but=(0, 1))) + [13, -1, "3", 10 ** 50]:
            self.asks("InvalidNumber", value, stores_number, LOT, value)
            self.asks("InvalidNumber", value, store_at, LOT, value, None)
        for value in list(odd_values(but=(int,))) + [True, False, -1, -(10 ** 40), "3"]:
            self.asks("InvalidIndex", value, store_at, ALL, 12, value)
        self.asks("InvalidIndex", 0, store_at, LOT, 3, 0)
        self.asks("InvalidIndex", 10 ** 60, store_at, ALL, 12, 10 ** 60)
        self.asks("InvalidIndex", 13 ** 13, store_at, ALL, 12, 13 ** 13)
        for value in odd_values(but=(Store,)):
            self.asks("NotAStore", value, place_of, LOT, value)
        big = Store((("x", 0), ("y", 0)), row_of(13).cells)
        self.tells("OtherNames", {"names": "x", "other": "xy"}, place_of, LOT, big)
        self.asks("TooMany", 13, place_of, every("xy"), big)
        self.asks("TooMany", 500, place_of, LOT, row_of(500))
        self.assertIsNone(place_of(LOT, STORE))
        self.assertEqual(place_of(ALL, row_of(12)), place_of(ALL, store_at(ALL, 12, place_of(ALL, row_of(12)))))


if __name__ == "__main__":
    unittest.main()
