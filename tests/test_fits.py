"""When pictures fit, and when sayings are kept ([16] to [19])."""

import unittest
from random import Random

from arrowcells.fits import chain_cells, is_placing, keeps, placing
from arrowcells.plans import Plan, plan_of, store_of
from arrowcells.sayings import saying_tree
from arrowcells.stores import Store, read_store
from tests import naive
from tests.chosen import some_picture, some_sayings
from tests.helpers import STORE, Asking, odd_values, small_stores, some_stores
from tests.test_sayings import BAD

RING = "some h : chain x h 0+ * chain h h 1+ * rest"
TAIL = read_store("x=4 y=2 | 2>7 4>2 5>5 7>2 9>0")
LISTS = read_store("x=1 y=4 | 1>2 2>3 3>0 4>3")


class KeepsTest(unittest.TestCase, Asking):
    def check(self, text, told):
        """The store keeps the sayings that are told as True, and not the others."""
        store = read_store(text)
        for saying, expected in told.items():
            self.assertIs(keeps(store, saying), expected, (text, saying))

    def test_items_that_compare_places(self):
        self.check("x=1 y=1 z=0 | 1>5", {
            "x = y * rest": True, "x = z * rest": False, "x != y * rest": False, "x != z * rest": True,
            "x = END * rest": False, "z = END * rest": True, "x != END * rest": True, "z != END * rest": False,
            "x = x * rest": True, "x != x * rest": False})

    def test_gone(self):
        self.check("x=1 y=5 z=0 | 1>5", {"gone x * rest": False, "gone y * rest": True, "gone z * rest": False,
                                         "some h : chain x h 1 * gone h": True,
                                         "some h : chain x h 0 * gone h * rest": False})
        self.check("x=9 y=9 | none", {"gone x": True, "gone x * x = y * gone y": True, "gone x * x != y": False})

    def test_lost(self):
        told = {"lost 2 * rest": True, "lost 0 1 * rest": False, "lost 0+2 * rest": True, "lost none * rest": False,
                "lost 2": False, "lost 0+ * chain x END 1": False, "lost 0+ * chain x END 1 * rest": True,
                "lost 2 * lost 1+ * rest": True, "lost 2 * lost 3+ * rest": False}
        self.check("x=1 | 1>0 2>3 3>2", told)
        self.check("x=0 | none", {"lost 0": True, "lost 1+": False, "x = END": True})

    def test_each_cell_belongs_to_a_chain_or_there_is_a_rest(self):
        self.check("x=1 y=3 | 1>2 2>0 3>0", {
            "chain x END 2": False, "chain x END 2 * rest": True, "chain x END 2 * chain y END 1": True,
            "chain y END 1": False, "x = x": False, "x = x * rest": True})
        self.check("x=1 | 1>0 2>0", {"chain x END 1": False, "chain x END 1 * rest": True})

    def test_no_cell_belongs_to_two_chains(self):
        self.check("x=1 y=4 | 1>2 2>3 3>0 4>3", {
            "chain x END 3 * chain y END 2": False, "chain x END 3 * chain y END 2 * rest": False,
            "some h : chain x h 2 * chain y h 1 * chain h END 1": True,
            "some h : chain x h 2 * chain y h 1 * chain h END 1 * h = END": False,
            "some h : chain x h 3 * chain y h 2": False, "chain x END 3 * chain x END 3 * rest": False,
            "chain x END 3 * chain x x 0 * rest": True})

    def test_chains_of_length_0(self):
        self.check("x=1 y=1 z=9 | 1>0", {
            "chain x y 0 * rest": True, "chain x z 0 * rest": False, "chain x END 0 * rest": False,
            "chain z z 0 * rest": True, "chain x x 1 * rest": False, "some h : chain z h 0 * gone h * rest": True})
        self.check("x=0 | none", {"chain x END 0": True, "chain x END 1+": False, "chain x END 0+": True})

    def test_chains_that_come_back(self):
        self.check("x=1 y=2 | 1>2 2>3 3>2", {
            "chain y y 2 * rest": True, "chain y y 0 * rest": True, "chain y y 4 * rest": False,
            "chain x x 0+ * rest": True, "chain x x 1+ * rest": False, "chain x y 1 * rest": True,
            "chain x y 3 * rest": False, "chain y x 0+ * rest": False, "chain x END 0+ * rest": False,
            "chain x y 1 * chain y y 2": True, "chain x y 0+ * chain y y 0+": True})
        self.check("x=1 | 1>1", {"chain x x 1": True, "chain x x 0": False, "chain x x 0 * rest": True, "chain x x 2": False})

    def test_chains_to_gone_places(self):
        self.check("x=1 y=9 | 1>2 2>9", {"chain x y 2": True, "chain x y 1 * rest": False, "chain x END 0+ * rest": False,
                                         "chain x y 2 * gone y": True, "some h : chain x h 2 * gone h": True})

    def test_lists_and_tails_of_the_document(self):
        for store in small_stores("x", (1, 2, 3), 4):
            cells, behind = naive.way(dict(store.cells), store.at("x"))
            is_whole = len(cells) == len(store.cells)
            self.assertIs(keeps(store, "chain x END 0+"), is_whole and behind == 0)
            self.assertIs(keeps(store, "some h : chain x h 0+ * chain h h 1+"), is_whole and behind in cells)
        for store in small_stores("xy", (1, 2), 3):
            self.assertIs(keeps(store, "x != y * rest"), store.at("x") != store.at("y"))

    def test_hidden_letters_stand_anywhere(self):
        self.check("x=1 y=2 | 1>2 2>3 3>0", {
            "some h : chain x h 1 * chain h END 2 * h = y": True, "some h : chain x h 3 * h = END": True,
            "some h : chain x h 2 * chain h END 1 * h != y": True, "some h : chain x h 0 * h = x * rest": True,
            "some h k : chain x h 1 * chain h k 1 * chain k END 1": True,
            "some h k : chain x h 1 * chain h k 0 * chain k END 2": True,
            "some h k : chain x h 0+ * chain x k 0+ * h != x * k != x * rest": False,
            "some h k : chain x h 1 * chain y k 1 * h = y * k != h * rest": True,
            # A hidden letter hides a name.
            "some y : chain x y 3 * y = END": True, "some y : chain x y 2 * chain y END 1": True,
            "some x : chain y x 2 * x = END * rest": True})

    def test_two_hidden_letters_and_four_chains(self):
        self.check("x=1 y=7 | 1>2 2>3 3>4 4>5 5>3 7>8 8>4", {
            "some h k : chain x h 2 * chain h k 1 * chain k h 2 * chain y k 2": True,
            "some h k : chain x h 2 * chain y k 2 * chain h k 0+ * chain k h 0+ * h != k": True,
            "some h k : chain x h 2 * chain h k 1 * chain k h 1 * chain y k 2": False,
            "some h k : chain x h 3 * chain h h 3 * chain y h 2 * chain h k 0": False,
            "some h k : chain x h 2 * chain h h 3 * chain y k 2 * chain x x 0": True,
            "some h k : chain x h 0+2 * chain h h 1+2 * chain y k 1+ * chain k h 0+ * h != k": False})

    def test_not_and_or(self):
        self.check("x=1 | 1>0", {
            "not ( chain x END 1 )": False, "not ( chain x END 2 )": True, "not ( not ( chain x END 1 ) )": True,
            "( rest ) and ( chain x END 1 )": True, "( rest ) and ( chain x END 1 ) and ( gone x )": False,
            "( gone x ) or ( chain x END 1 )": True, "( gone x ) or ( lost 1 ) or ( x = END )": False,
            "( gone x ) or ( ( rest ) and ( not ( lost 1 ) ) )": True})

    def test_numbers_of_chains(self):
        for many in range(30):
            store = store_of(Plan("x>1 -.", (many,), 0) if many else Plan("x.", (), 0))
            for text in ("0+2", "3 5 7+6", "12+6 1", "2 3", "12+", "none", "1+4 3+4 2"):
                self.assertIs(keeps(store, f"chain x END {text}"), naive.has(text, many), (many, text))

    def test_against_the_plainest_way(self):
        random = Random(10)
        for names in ("x", "xy", "az", "xyz"):
            for saying in some_sayings(random, names, 120):
                tree = saying_tree(saying)
                for store in some_stores(random, names, 8):
                    expected = naive.keeps(store.names, store.cells, tree)
                    self.assertIs(keeps(store, saying), expected, (store.text, saying))

    def test_settled_by_the_plan(self):
        random = Random(11)
        for saying in some_sayings(random, "xy", 100):
            for store in some_stores(random, "xy", 8):
                self.assertIs(keeps(store_of(plan_of(store)), saying), keeps(store, saying))

    def test_500_cells(self):
        row = store_of(Plan("x>1 -. y>1", (300, 199), 1))
        self.assertIs(keeps(row, "some h : chain x h 0+ * chain h END 12 * chain y END 1+2 * rest"), True)
        self.assertIs(keeps(row, "some h k : chain x h 0+2 * chain h k 1+2 * chain k END 0+2 * rest"), False)
        tail = Store((("x", 1),), tuple((place, place + 1) for place in range(1, 500)) + ((500, 250),))
        self.assertEqual(placing(tail, "some h : chain x h 0+ * chain h h 1+"), ((250,), (249, 251)))

    def test_errors(self):
        for value in odd_values(but=(Store,)):
            self.asks("NotAStore", value, keeps, value, None)
        for value in list(odd_values()) + BAD:
            self.asks("InvalidSaying", value, keeps, STORE, value)
        self.asks("UnknownName", "a", keeps, STORE, "( x = z ) and ( gone b ) and ( a = x )")
        self.asks("UnknownName", "z", keeps, TAIL, "z = END * rest")
        self.asks("UnknownName", "h", keeps, STORE, "( some h : chain x h 1 ) or ( gone h )")
        self.asks("UnknownName", "y", keeps, STORE, "some x : chain y x 1")
        self.assertIs(keeps(saying="rest", store=STORE), True)


class PlacingTest(unittest.TestCase, Asking):
    def test_told_placings(self):
        self.assertEqual(placing(TAIL, RING), ((2,), (1, 2)))
        self.assertEqual(placing(TAIL, "x != y * rest"), ((), ()))
        self.assertEqual(placing(LISTS, "some k h : chain x h 2 * chain h k 1 * chain y h 1"), ((0, 3), (2, 1, 1)))
        self.assertIsNone(placing(LISTS, "chain x END 3"))
        self.assertIsNone(placing(LISTS, "some h : chain x h 4+ * rest"))
        self.assertEqual(placing(picture="chain x x 0 * rest", store=LISTS), ((), (0,)))

    def test_placings_fit_and_none_is_told_only_if_none_does(self):
        random = Random(12)
        for names in ("x", "xy", "wz"):
            for _ in range(150):
                picture = some_picture(random, names, random.choice([2, 3]), random.choice([1, 2, 4]))
                tree = saying_tree(picture)
                for store in some_stores(random, names, 6):
                    expected = naive.placings(store.names, store.cells, tree)
                    found = placing(store, picture)
                    self.assertTrue(found in expected if expected else found is None, (store.text, picture, found))
                    for value in expected[:4]:
                        self.assertIs(is_placing(store, picture, value), True)
                    for (places, lengths) in expected[:2]:
                        for value in ((places[::-1], lengths), (places, lengths[::-1]), (places, lengths + (0,)),
                                      (places, tuple(many + 1 for many in lengths)),
                                      (tuple(place + 1 for place in places), lengths)):
                            self.assertIs(is_placing(store, picture, value), value in expected, (store.text, picture, value))

    def test_is_placing(self):
        self.assertIs(is_placing(TAIL, RING, ((2,), (1, 2))), True)
        wrong = [((2,), (1, 4)), ((2,), (1, 0)), ((7,), (2, 2, 0)), ((7,), (1, 2)), ((2, 2), (1, 2)), ((2,), (1,)),
                 ((), (1, 2)), ((2,), (1, 2), ()), ((2,),), (2, (1, 2)), ((2,), 1), [(2,), (1, 2)], ([2], (1, 2)),
                 ((2,), [1, 2]), ((2,), (True, 2)), ((2,), (1, "2")), (("2",), (1, 2)), ((None,), (1, 2)), None,
                 ((2,), (-1, 2)), ((2,), (1, 10 ** 30)), ((1000,), (1, 2)), ((-2,), (1, 2)), (((2,),), (1, 2)), "", (), 0]
        for value in wrong + list(odd_values()):
            self.assertIs(is_placing(TAIL, RING, value), False, value)
        # The ring has a cell of the tail then.
        self.assertIs(is_placing(TAIL, RING, ((7,), (2, 2))), False)
        self.assertIs(is_placing(TAIL, "chain y y 0+ * rest", ((), (0,))), True)
        self.assertIs(is_placing(TAIL, "chain y y 0+ * rest", ((), (2,))), True)
        self.assertIs(is_placing(TAIL, "chain y y 1 * rest", ((), (2,))), False)
        self.assertIs(is_placing(read_store("x=0 | none"), "chain x END 0+", ((), (0,))), True)
        self.assertIs(is_placing(read_store("x=1 | 1>1"), "some h : chain x h 0+ * rest", ((True,), (0,))), False)
        # A chain does not go on behind its end, and each item must hold.
        told = {"chain x y 3 * rest": ((), (3,)), "chain y y 4 * rest": ((), (4,)), "x = y * rest": ((), ()),
                "x != x * rest": ((), ()), "gone x * rest": ((), ()), "lost 1 3+ * rest": ((), ()),
                "chain x y 1 * chain y y 2": ((), (1, 2)), "some h : chain x h 1 * h != y * rest": ((2,), (1,)),
                "some h : chain x h 2 * chain y h 1 * rest": ((7,), (2, 1))}
        for picture, value in told.items():
            self.assertIs(is_placing(TAIL, picture, value), False, picture)
        self.assertIs(is_placing(LISTS, "chain x END 3", ((), (3,))), False)
        self.assertIs(is_placing(LISTS, "chain x END 0+ * rest", ((), (10 ** 30,))), False)
        self.assertIs(is_placing(TAIL, "chain y y 0+ * rest", ((), (10 ** 30,))), False)
        self.assertIs(is_placing(value=((), ()), picture="rest", store=TAIL), True)
        for value in odd_values():
            self.assertIs(is_placing(TAIL, "rest", value), False)

    def test_chain_cells(self):
        self.assertEqual(chain_cells(TAIL, RING, ((2,), (1, 2))), ((4,), (2, 7)))
        self.assertEqual(chain_cells(LISTS, "chain x x 0 * chain x END 3 * rest", ((), (0, 3))), ((), (1, 2, 3)))
        picture = "some h : chain y h 1 * chain x h 2 * chain h END 0+"
        self.assertEqual(chain_cells(LISTS, picture, ((3,), (1, 2, 1))), ((4,), (1, 2), (3,)))
        self.assertEqual(chain_cells(value=((), ()), store=LISTS, picture="rest"), ())

    def test_errors(self):
        calls = [lambda store, picture: placing(store, picture), lambda store, picture: is_placing(store, picture, None),
                 lambda store, picture: chain_cells(store, picture, None)]
        for action in calls:
            for value in odd_values(but=(Store,)):
                self.asks("NotAStore", value, action, value, None)
            for value in list(odd_values()) + BAD + ["not ( rest )", "( rest ) and ( rest )", "( rest ) or ( gone z )"]:
                self.asks("InvalidSaying", value, action, STORE, value)
            self.asks("UnknownName", "a", action, STORE, "x = z * gone b * chain x a 1")
        for value in list(odd_values()) + [((2,), (1, 4)), ((7,), (1, 2))]:
            self.asks("InvalidPlacing", value, chain_cells, TAIL, RING, value)


if __name__ == "__main__":
    unittest.main()
