"""How many plans a lot has of each size, and which ones ([13], [20])."""

import unittest
from math import comb
from random import Random

from arrowcells.listed import plan_at, plans_number, plans_of_size
from arrowcells.lots import Lot, every, has_plan, lot_of
from arrowcells.lotsums import either
from arrowcells.shapes import lengths_number, shapes
from tests.chosen import some_lot
from tests.helpers import LOT, Asking, box, odd_values, plans_up_to


class ListedTest(unittest.TestCase, Asking):
    def test_all_plans_of_a_size(self):
        # With k lengths from 1 on, and a number of lost cells from 0 on.
        for names in ("x", "xy"):
            for size in (0, 1, 2, 7, 40, 137, 400):
                expected = sum(comb(size, lengths_number(shape)) for shape in shapes(names))
                self.assertEqual(plans_number(every(names), size), expected)

    def test_numbers_up_to_the_highest_size(self):
        shape = "a>1 ->2 ->3 -! b>1 c>6 ->2 d>6"
        lot = Lot("abcd", (box(shape, *["1+"] * 7, "0+"),))
        self.assertEqual(plans_number(lot, 400), comb(400, 7))
        # A plan that is in several boxes counts once.
        twice = Lot("abcd", (box(shape, *["1+"] * 7, "0+"), box(shape, *["1+2"] * 7, "0+"), box(shape, *["2+"] * 7, "0")))
        self.assertEqual(plans_number(twice, 399), comb(399, 7))
        self.assertEqual(plans_number(Lot("abcd", (box(shape, *["1+2"] * 7, "0"),)), 399), comb(202, 6))
        self.assertEqual(plans_number(Lot("abcd", (box(shape, *["1+2"] * 7, "0"),)), 400), 0)
        self.assertEqual(plans_number(Lot("x", (box("x>0", "400+", "0"), box("x>0", "1", "400"))), 400), 1)
        self.assertEqual(plans_number(Lot("x", (box("x>1 ->1", "1+60", "2+60", "0+60"),)), 363), comb(8, 2))
        self.assertEqual(plans_number(lot=Lot("x", ()), size=3), 0)

    def test_lots_at_random(self):
        random = Random(61)
        for _ in range(80):
            names, size = random.choice([("x", 12), ("xy", 8)])
            told = random.sample(shapes(names), random.choice([1, 2, 3, 6]))
            lot = either(some_lot(random, names, told), some_lot(random, names, told)) if random.random() < 0.3 else (
                some_lot(random, names, told, 6))
            plans = [plan for plan in plans_up_to(names, size, told) if has_plan(lot, plan)]
            for many in range(size + 1):
                sized = [plan for plan in plans if plan.size == many]
                self.assertEqual(plans_number(lot, many), len(sized))
                if len(sized) > 400:
                    self.asks("TooMany", len(sized), plans_of_size, lot, many)
                else:
                    self.assertEqual(plans_of_size(lot, many), tuple(sized))
            for index in {0, 1, 2, len(plans) // 2, len(plans) - 1}:
                if 0 <= index < min(len(plans), 401):
                    self.assertEqual(plan_at(lot, index), plans[index])

    def test_plans_of_a_size(self):
        self.assertEqual([plan.text for plan in plans_of_size(every("x"), 2)],
                         ["x! | none | 2", "x. | none | 2", "x>0 | 1 | 1", "x>0 | 2 | 0", "x>1 -! | 1 | 1", "x>1 -! | 2 | 0",
                          "x>1 -. | 1 | 1", "x>1 -. | 2 | 0", "x>1 ->1 | 1 1 | 0"])
        self.assertEqual(plans_of_size(lot=Lot("x", ()), size=40), ())
        shape = "a>1 ->2 ->3 -! b>1 c>6 ->2 d>6"
        lot = Lot("abcd", (box(shape, *["1+"] * 7, "33"), box(shape, *["1+"] * 6, "30+", "0")))
        self.assertEqual([plan.text for plan in plans_of_size(lot, 40)],
                         [f"{shape} | 1 1 1 1 1 1 1 | 33"] + [plan.text for plan in plans_of_size(Lot("abcd", lot.boxes[1:]), 40)])
        self.assertEqual(plans_number(lot, 40), 1 + comb(10, 6))
        self.assertEqual(len(plans_of_size(lot, 40)), 211)

    def test_just_four_hundred(self):
        boxes = tuple(box("x>1 ->1", "1+", "1+", str(lost)) for lost in range(40) if lost not in (0, 1, 2, 3, 4, 5, 6, 7, 8, 38, 39))
        lot = Lot("x", boxes)
        self.assertEqual(plans_number(lot, 40), sum(range(2, 31)))
        self.asks("TooMany", sum(range(2, 31)), plans_of_size, lot, 40)
        lot = Lot("x", boxes[3:] + (box("x>0", "35 36 37", "0+"), box("x.", "0+")))
        self.assertEqual(len(plans_of_size(lot, 40)), sum(range(2, 28)) + 4)
        lot = Lot("x", boxes[2:] + (box("x.", "0+"),))
        self.assertEqual(plans_number(lot, 40), 406)
        self.asks("TooMany", 406, plans_of_size, lot, 40)
        lot = Lot("x", tuple(one for one in lot.boxes if one[2].text not in ("35", "37")))
        self.assertEqual((plans_number(lot, 40), len(plans_of_size(lot, 40))), (400, 400))
        self.asks("TooMany", 401, plans_of_size, Lot("x", lot.boxes + (box("x!", "40"),)), 40)

    def test_plan_at(self):
        self.assertEqual([plan_at(every("x"), index).text for index in range(7)],
                         ["x! | none | 0", "x. | none | 0", "x! | none | 1", "x. | none | 1", "x>0 | 1 | 0", "x>1 -! | 1 | 0",
                          "x>1 -. | 1 | 0"])
        expected = [plan for size in range(13) for plan in plans_of_size(every("x"), size)]
        self.assertEqual([plan_at(every("x"), index) for index in range(401)], expected[:401])
        self.assertEqual(plan_at(index=400, lot=every("xy")).size, 4)

    def test_indexes_of_few_and_of_great_plans(self):
        lot = Lot("x", (box("x>0", "599 30", "1 598"), box("x>0", "30", "1 2"), box("x.", "500+60")))
        found = [plan_at(lot, index).text for index in range(8)]
        self.assertEqual(found, ["x>0 | 30 | 1", "x>0 | 30 | 2", "x. | none | 500", "x. | none | 560", "x>0 | 599 | 1",
                                 "x. | none | 620", "x>0 | 30 | 598", "x. | none | 680"])
        self.assertEqual(plan_at(lot, 400).text, f"x. | none | {500 + 60 * 395}")
        few = Lot("x", lot.boxes[:2])
        self.assertEqual([plan_at(few, index).text for index in range(5)][3:], ["x>0 | 30 | 598", "x>0 | 599 | 598"])
        self.asks("InvalidIndex", 5, plan_at, few, 5)
        self.asks("InvalidIndex", 400, plan_at, few, 400)
        self.asks("InvalidIndex", 0, plan_at, Lot("abc", ()), 0)
        ends = lot_of("chain x END 1 3", "x")
        self.assertEqual([plan_at(ends, 1).text, plan_at(ends, 0).text], ["x>1 -. | 3 | 0", "x>1 -. | 1 | 0"])
        self.asks("InvalidIndex", 2, plan_at, ends, 2)

    def test_errors(self):
        for action, name, high in ((plans_number, "InvalidNumber", 400), (plans_of_size, "InvalidNumber", 40),
                                   (plan_at, "InvalidIndex", 400)):
            for value in odd_values(but=(Lot,)):
                self.asks("NotALot", value, action, value, None)
            for value in list(odd_values()) + [-1, high + 1, "3", (3,)]:
                self.asks(name, value, action, LOT, value)
            self.assertIsNotNone(action(every("x"), 0))
            self.asks(name, high + 1, action, every("x"), high + 1)
        self.assertEqual(plans_of_size(Lot("x", (box("x.", "40"),)), 40)[0].text, "x. | none | 40")


if __name__ == "__main__":
    unittest.main()
