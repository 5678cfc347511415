"""Boxes and lots, and the lot of a saying ([2], [19], [20])."""

import itertools
import unittest
from random import Random

from arrowcells.fits import keeps
from arrowcells.lengths import Lengths
from arrowcells.lots import Lot, every, has_plan, has_store, lot_of
from arrowcells.plans import Plan, plan_of, store_of
from arrowcells.shapes import lengths_number, shapes
from arrowcells.stores import Store, read_store
from tests.chosen import some_sayings
from tests.helpers import LOT, PLAN, STORE, Asking, odd_values, small_plans, small_stores, some_stores
from tests.test_sayings import BAD

HUGE = 10 ** 30
ONES, ALL, SOME = Lengths("1+"), Lengths("0+"), Lengths("2 5+3")
FITTING = [
    "chain x END 0+", "some h : chain x h 0+ * chain h h 1+", "x != y * rest", "x = y * rest", "gone x * rest", "lost 1+2 * rest",
    "chain x y 1+ * rest", "chain x y 0+2 * chain y x 1+2", "chain y END 3+2 1 * chain x END 0+",
    "some h : chain x h 1+ * chain y h 1+ * chain h END 0+2", "some h k : chain x h 0+ * chain h k 1 * chain k END 0+2",
    "some h k : chain x h 1+2 * chain y k 0+2 * chain h k 1+ * chain k h 1+", "chain x x 0 1 3 * lost 0 2 * rest",
    "some h k : chain x h 2 * chain h k 2+3 * chain k h 0 1 * chain y k 0+", "some y : chain x y 2+2 * chain y END 3",
    "not ( chain x END 2+2 )", "not ( some h : chain x h 1+ * chain y h 1+ * chain h END 0+2 )",
    "( chain x END 0+2 * rest ) and ( chain y END 1+2 * rest )", "( gone x * rest ) or ( not ( lost 0 * rest ) )",
    "( not ( chain x y 1+2 * rest ) ) and ( not ( chain y x 0+2 * rest ) ) and ( lost 0 3 * rest )",
    "some h k : chain x h 0+ * chain h k 0+ * chain k k 1+ * chain y h 0+", "lost none * rest", "rest", "x = x",
    "chain x END 1+ * chain x x 0 * rest", "some h k : chain x h 0+3 * chain x k 0 * chain h k 1+3 * gone y * rest",
]


class LotTest(unittest.TestCase, Asking):
    def test_attributes(self):
        boxes = (("x.", (), ALL), ("x>1 ->1", (ONES, SOME), Lengths("3")), ("x.", (), ALL))
        lot = Lot("x", boxes)
        self.assertEqual((lot.names, lot.boxes), ("x", boxes))
        self.assertEqual(Lot(boxes=(), names="abcd").boxes, ())
        self.assertEqual(Lot("abcd", (("a>1 -. b>1 c>0 d!", (ONES,) * 3, ALL),)).names, "abcd")

    def test_equal_to_itself_alone(self):
        lot = Lot("x", ())
        self.assertTrue(lot == lot and not lot != lot and lot)
        for value in list(odd_values()) + [Lot("x", ())]:
            self.assertIs(lot == value, False)
            self.assertIs(lot != value, True)
        self.assertIsNot(every("x"), every("x"))
        self.assertFalse(lot_of("rest", "x") == lot_of("rest", "x"))

    def test_wrong_names(self):
        self.asks_for_all("InvalidNames", odd_values(), lambda names: Lot(names, None))
        self.asks_for_all("InvalidNames", ["yx", "xx", "abcde", "x y", "END", ("x",)], lambda names: Lot(names, ()))

    def test_wrong_boxes(self):
        for value in odd_values(but=(tuple,)):
            self.points("InvalidBoxes", None, Lot, "x", value)
        good = ("x>1 -.", (ONES,), ALL)
        wrong = [("y>1 -.", (ONES,), ALL), ("x>1 -. y>0", (ONES, ONES), ALL), ("x>1", (ONES,), ALL), ("x>1 -.", (), ALL),
                 ("x>1 -.", (ONES, ONES), ALL), ("x>1 -.", ONES, ALL), ("x>1 -.", [ONES], ALL), ("x>1 -.", ("1+",), ALL),
                 ("x>1 -.", (ALL,), ALL), ("x>1 -.", (Lengths("0 2"),), ALL), ("x>1 -.", (Lengths("none"),), ALL),
                 ("x>1 -.", (ONES,), Lengths("none")), ("x>1 -.", (ONES,), "0+"), ("x>1 -.", (ONES,), None),
                 ("x>1 -.", (ONES,)), ("x>1 -.", (ONES,), ALL, ALL), ["x>1 -.", (ONES,), ALL], (None, (ONES,), ALL),
                 ("x>1 ->1", (ONES, ALL), ALL), ("x>1 -.", (1,), ALL), (("x>1 -.",), (ONES,), ALL)]
        for box in wrong + list(odd_values()):
            self.points("InvalidBoxes", 0, Lot, "x", (box,))
            self.points("InvalidBoxes", 2, Lot, "x", (good, good, box, box))
        self.points("InvalidBoxes", 1, Lot, "xy", (("x! y!", (), ALL), good))
        self.assertEqual(len(Lot("x", (good, ("x>1 -.", (SOME,), Lengths("0")))).boxes), 2)

    def test_it_holds_the_plans_of_its_boxes(self):
        lot = Lot("xy", (("x>1 -. y>0", (SOME, Lengths("1 3")), Lengths("0+2")), ("xy!", (), Lengths("1"))))
        found = [plan.text for plan in small_plans("xy", 5, 2) if has_plan(lot, plan)]
        expected = [f"x>1 -. y>0 | {first} {second} | {lost}" for first in (2, 5) for second in (1, 3) for lost in (0, 2)]
        self.assertEqual(sorted(found), sorted(expected + ["xy! | none | 1"]))
        self.assertTrue(has_plan(lot, Plan("x>1 -. y>0", (5 + 3 * HUGE // 10, 3), HUGE)))
        self.assertFalse(has_plan(lot, Plan("x>1 -. y>0", (HUGE, 3), HUGE)))
        self.assertFalse(has_plan(lot, Plan("x>1 -. y>0", (5, 3), HUGE - 1)))


class HasTest(unittest.TestCase, Asking):
    def test_every_plan(self):
        for names in ("x", "bx"):
            lot = every(names)
            self.assertTrue(all([has_plan(lot, plan) for plan in small_plans(names, 2, 1)]))
        self.assertTrue(has_plan(every(names="x"), Plan("x>1 ->1", (HUGE, HUGE), HUGE)))
        self.assertTrue(all([has_store(every("x"), store) for store in small_stores("x", (1, 2), 3)]))

    def test_other_names(self):
        for lot in (every("x"), every("xy"), Lot("xyz", (("xyz.", (), ALL),)), lot_of("rest", "y")):
            for names in ("x", "y", "xy", "yz", "xyz", "wxyz"):
                self.assertIs(has_plan(lot, Plan(f"{names}.", (), 0)), names == lot.names)
                store = Store(tuple((letter, 0) for letter in names), ())
                self.assertIs(has_store(lot, store), names == lot.names)

    def test_has_store(self):
        lot = Lot("xy", (("x>1 y>1", (Lengths("1"), Lengths("2")), Lengths("2")),))
        self.assertIs(has_store(lot, read_store("x=4 y=2 | 2>7 4>2 5>5 7>2 9>0")), True)
        self.assertIs(has_store(lot=lot, store=read_store("x=4 y=2 | 2>7 4>2 5>5 7>2")), False)
        self.assertIs(has_plan(plan=Plan("x>1 y>1", (1, 2), 2), lot=lot), True)

    def test_errors(self):
        for value in odd_values(but=(Lot,)):
            self.asks("NotALot", value, has_plan, value, None)
            self.asks("NotALot", value, has_store, value, None)
        for value in odd_values(but=(Plan,)):
            self.asks("NotAPlan", value, has_plan, LOT, value)
        for value in odd_values(but=(Store,)):
            self.asks("NotAStore", value, has_store, LOT, value)
        self.assertFalse(has_plan(LOT, PLAN) or has_store(LOT, STORE))


class LotOfTest(unittest.TestCase, Asking):
    def told(self, saying, names):
        """The boxes of the lot of a saying as texts, sorted."""
        return sorted([f"{shape} | {' , '.join([told.text for told in lengths])} | {lost.text}"
                       for shape, lengths, lost in lot_of(saying, names).boxes])

    def test_told_lots(self):
        self.assertEqual(self.told("chain x END 0+", "x"), ["x. |  | 0", "x>1 -. | 1+ | 0"])
        self.assertEqual(self.told("some h : chain x h 0+ * chain h h 1+", "x"), ["x>0 | 1+ | 0", "x>1 ->1 | 1+ , 1+ | 0"])
        self.assertEqual(self.told("chain x END 3+2 * lost 1+2 * rest", "x"), ["x>1 -. | 3+2 | 1+2"])
        self.assertEqual(self.told("gone x * rest", "x"), ["x! |  | 0+"])
        self.assertEqual(self.told("not ( gone x * lost 2+ * rest )", "x"),
                         ["x! |  | 0 1", "x. |  | 0+", "x>0 | 1+ | 0+", "x>1 -! | 1+ | 0+", "x>1 -. | 1+ | 0+",
                          "x>1 ->1 | 1+ , 1+ | 0+"])
        self.assertEqual(self.told("some h k : chain x h 1 * chain h k 2+2 * chain k END 3", "x"), ["x>1 -. | 6+2 | 0"])
        self.assertEqual(self.told("lost none", "xy"), [])
        self.assertEqual(lot_of("rest", "xy").names, "xy")
        self.assertEqual({shape for shape, _, _ in lot_of("rest", "xy").boxes}, set(shapes("xy")))

    def test_it_is_made_of_boxes(self):
        for saying in FITTING:
            lot = lot_of(saying, "xy")
            self.assertIsInstance(lot.boxes, tuple)
            self.assertEqual(Lot("xy", lot.boxes).boxes, lot.boxes)
            for _, lengths, lost in lot.boxes:
                for told in lengths + (lost,):
                    self.assertEqual(Lengths(told.text), told)

    def test_small_plans_of_told_sayings(self):
        plans = [(plan, store_of(plan)) for plan in small_plans("xy", 3, 1) if plan.size < 7]
        for saying in FITTING:
            lot = lot_of(saying, "xy")
            for plan, store in plans:
                expected = keeps(store, saying)
                self.assertIs(has_plan(lot, plan), expected, (saying, plan.text))
                self.assertIs(has_store(lot, store), expected)

    def test_small_plans_of_sayings_at_random(self):
        random = Random(13)
        for names, high, lost in (("x", 6, 3), ("xy", 3, 2), ("ah", 3, 2)):
            plans = list(small_plans(names, high, lost))
            for saying in some_sayings(random, names, 150):
                lot = lot_of(saying, names)
                for plan in random.sample(plans, 40):
                    self.assertIs(has_plan(lot, plan), keeps(store_of(plan), saying), (saying, plan.text))

    def test_stores_at_random(self):
        random = Random(14)
        for saying in some_sayings(random, "xy", 100):
            lot = lot_of(saying, "xy")
            for store in some_stores(random, "xy", 12):
                expected = keeps(store, saying)
                self.assertIs(has_store(lot, store), expected, (saying, store.text))
                self.assertIs(has_plan(lot, plan_of(store)), expected)

    def test_longer_stretches_and_greater_numbers(self):
        random = Random(15)
        for step in (2, 3, 4, 5, 6):
            for saying in some_sayings(random, "xy", 60, step, 12):
                lot = lot_of(saying, "xy")
                told = sorted({shape for shape, _, _ in lot.boxes}) or list(shapes("xy"))
                for _ in range(12):
                    shape, high = random.choice(told), random.choice([4, 12, 40])
                    lengths = tuple(random.randint(1, high) for _ in range(lengths_number(shape)))
                    plan = Plan(shape, lengths, random.choice([0, 0, random.randint(0, 30)]))
                    self.assertIs(has_plan(lot, plan), keeps(store_of(plan), saying), (saying, plan.text))

    def test_lengths_up_to_the_highest(self):
        lot = lot_of("some h k : chain x h 1+6 * chain h k 2+6 5 * chain k h 0+6 7 * rest", "x")
        for tail, ring in itertools.product((1, 2, 5, 7, 13), (2, 5, 8, 9, 14, 15)):
            plan = Plan("x>1 ->1", (tail, ring), 0)
            self.assertIs(has_plan(lot, plan), keeps(store_of(plan), "some h k : chain x h 1+6 * chain h k 2+6 5 *"
                                                                     " chain k h 0+6 7 * rest"), plan.text)
            far = 6 * (HUGE // 12)
            self.assertIs(has_plan(lot, Plan("x>1 ->1", (tail + far, ring + 6 + far), HUGE)),
                          has_plan(lot, Plan("x>1 ->1", (tail + 30, ring + 36), 0)))
        lists = lot_of("chain x END 1+2", "x")
        self.assertTrue(has_plan(lists, Plan("x>1 -.", (HUGE - 1,), 0)))
        self.assertFalse(has_plan(lists, Plan("x>1 -.", (HUGE,), 0)) or has_plan(lists, Plan("x>1 -.", (HUGE - 1,), HUGE)))

    def test_not_and_or_are_those_of_sets(self):
        random = Random(16)
        plans = list(small_plans("xy", 2, 1))
        pictures = [text for text in FITTING if "( " not in text and "+3" not in text]
        for first, second in zip(pictures, pictures[3:] + pictures[:3]):
            texts = (first, second, f"not ( {first} )", f"( {first} ) and ( {second} )", f"( {first} ) or ( {second} )")
            lots = [lot_of(text, "xy") for text in texts]
            for plan in random.sample(plans, 60):
                one, two, none, all_of, some = [has_plan(lot, plan) for lot in lots]
                self.assertEqual((none, all_of, some), (not one, one and two, one or two))

    def test_errors(self):
        for value in list(odd_values()) + BAD:
            self.asks("InvalidSaying", value, lot_of, value, None)
        for value in list(odd_values()) + ["yx", "abcde"]:
            self.asks("InvalidNames", value, lot_of, "gone z", value)
            self.asks("InvalidNames", value, every, value)
        self.asks("UnknownName", "y", lot_of, "( gone z ) or ( x = y )", "x")
        self.asks("UnknownName", "w", lot_of, "chain z w 1", "xyz")
        self.asks("UnknownName", "y", lot_of, "some x : chain y x 1", "x")
        self.asks("TooMany", 3, lot_of, "x = y * rest", "xyz")
        self.asks("TooMany", 4, lot_of, "rest", "abcd")
        self.asks("TooMany", 3, every, "abc")
        self.assertEqual(lot_of(names="x", saying="rest").names, "x")


if __name__ == "__main__":
    unittest.main()
