"""Unions, intersections and differences of lots, and lots with a test ([20])."""

import unittest
from random import Random

from arrowcells.lengths import Lengths
from arrowcells.lots import Lot, every, has_plan, lot_of
from arrowcells.lotsums import either, meet, minus, passing
from arrowcells.planruns import plan_holds
from arrowcells.plans import Plan, store_of
from arrowcells.runs import holds
from arrowcells.shapes import shapes
from tests.chosen import some_lot, some_sayings, some_test
from tests.helpers import LOT, Asking, box, box_texts, odd_values, plans_up_to, small_plans
from tests.test_programs import NO_TESTS

HUGE = 10 ** 30
WORDS = ((either, lambda one, two: one or two), (meet, lambda one, two: one and two), (minus, lambda one, two: one and not two))


class LotsumsTest(unittest.TestCase, Asking):
    def check(self, lot, other, plans):
        """All three are as one goes through the plans."""
        for action, word in WORDS:
            told = action(lot, other)
            self.assertIsInstance(told, Lot)
            self.assertEqual(told.names, lot.names)
            # A lot is made of boxes as the class takes them.
            self.assertEqual(Lot(told.names, told.boxes).boxes, told.boxes)
            for plan in plans:
                self.assertIs(has_plan(told, plan), word(has_plan(lot, plan), has_plan(other, plan)), plan.text)

    def test_told_lots(self):
        lot, other = Lot("x", (box("x>1 -.", "1+2", "0"), box("x.", "0+"))), Lot("x", (box("x>1 -.", "3+", "0 1"), box("x!", "0")))
        self.assertEqual(box_texts(meet(lot, other)), ["x>1 -. | 3+2 | 0"])
        self.assertEqual(box_texts(minus(lot, other)), ["x. |  | 0+", "x>1 -. | 1 | 0"])
        self.assertEqual(sorted(shape for shape, _, _ in either(lot, other).boxes)[:2], ["x!", "x."])
        self.assertEqual(meet(lot, Lot("x", ())).boxes, ())
        self.assertEqual(minus(lot, lot).boxes, ())
        self.assertEqual(either(Lot("x", ()), Lot("x", ())).boxes, ())
        self.assertEqual(box_texts(either(lot=lot, other=Lot("x", ()))), box_texts(lot))
        self.assertEqual(box_texts(meet(other=lot, lot=every("x"))), box_texts(lot))
        self.assertEqual(box_texts(minus(other=Lot("x", ()), lot=lot)), box_texts(lot))

    def test_lots_of_one_name(self):
        random = Random(41)
        plans = plans_up_to("x", 12)
        for _ in range(60):
            told = random.sample(shapes("x"), random.choice([1, 2, 6]))
            self.check(some_lot(random, "x", told), some_lot(random, "x", told), [plan for plan in plans if plan.shape in told])

    def test_lots_of_two_names(self):
        random = Random(42)
        for _ in range(80):
            told = random.sample(shapes("xy"), random.choice([1, 2, 3]))
            lot, other = some_lot(random, "xy", told), some_lot(random, "xy", told)
            self.check(lot, other, plans_up_to("xy", 7, told))
            third = some_lot(random, "xy", told)
            self.check(either(lot, other), third, plans_up_to("xy", 5, told))
            self.check(third, minus(lot, meet(other, third)), plans_up_to("xy", 5, told))

    def test_lots_of_sayings(self):
        random = Random(43)
        plans = list(small_plans("xy", 2, 1))
        sayings = list(some_sayings(random, "xy", 20, 3))
        for first, second in zip(sayings, sayings[1:]):
            self.check(lot_of(first, "xy"), lot_of(second, "xy"), random.sample(plans, 60))

    def test_four_names(self):
        shape = "a>1 ->2 ->3 -! b>1 c>6 ->2 d>6"
        lot = Lot("abcd", (box(shape, "1+2", "1+", "2+3", "1+", "1+", "1 2", "5+", "0+"), box("abcd.", "1+")))
        other = Lot("abcd", (box(shape, "1+", "1+3", "1+", "4+", "1+", "2+", "1+", "0+2"), box("abcd.", "0+2")))
        random = Random(44)
        plans = [Plan(shape, tuple(random.randint(1, 6) for _ in range(7)), random.randint(0, 3)) for _ in range(300)]
        self.check(lot, other, plans + [Plan("abcd.", (), lost) for lost in range(9)])

    def test_great_starts_and_great_numbers(self):
        lot = Lot("x", (box("x>1 ->1", "600+60", "599", "30+"), box("x>1 ->1", "7 500+30", "2+20", "1")))
        other = Lot("x", (box("x>1 ->1", "570+15", "598 599 600+", "0+4"), box("x>1 ->1", "1+", "1+", "0+")))
        far = [Plan("x>1 ->1", (first, second), lost) for first in (7, 500, 600, 630, 660, 60 * HUGE // 60, HUGE // 10 * 6 + 30)
               for second in (2, 22, 582, 599, HUGE) for lost in (0, 1, 28, 30, 31, 32, HUGE, HUGE - 1)]
        self.check(lot, other, far)
        self.check(lot, Lot("x", other.boxes[:1]), far)
        self.check(Lot("x", other.boxes[:1]), lot, far)

    def test_steps_that_do_not_go_together(self):
        # The union of these boxes has boxes with small steps, and they are told with such.
        lot = Lot("x", (box("x>1 -.", "1+59", "0"), box("x>1 -.", "2+58", "1"), box("x>0", "4+47", "3+")))
        other = Lot("x", (box("x>1 -.", "3+57", "2"), box("x>1 -.", "1+53", "0"), box("x>0", "5+43", "0+")))
        for told in (either(lot, other), either(either(lot, other), lot), minus(lot, Lot("x", (box("x>1 -.", "1+", "5+"),)))):
            for _, lengths, lost in told.boxes:
                for one in lengths + (lost,):
                    self.assertEqual(Lengths(one.text), one)
        random = Random(45)
        plans = [Plan(random.choice(["x>1 -.", "x>0"]), (random.choice([random.randint(1, 300), random.randint(1, 10 ** 7)]),),
                      random.randint(0, 4)) for _ in range(2000)]
        self.check(lot, other, plans + [Plan("x>1 -.", (1 + 59 * 53 * many,), 0) for many in range(9)])

    def test_errors(self):
        for action in (either, meet, minus):
            for value in odd_values(but=(Lot,)):
                self.asks("NotALot", value, action, value, None)
                self.asks("NotALot", value, action, LOT, value)
            self.tells("OtherNames", {"names": "x", "other": "xy"}, action, LOT, every("xy"))
            self.tells("OtherNames", {"names": "abcd", "other": "x"}, action, Lot("abcd", ()), LOT)


class PassingTest(unittest.TestCase, Asking):
    def test_all_shapes(self):
        random = Random(46)
        for names in ("x", "xy"):
            plans = list(small_plans(names, 1, 1))
            for _ in range(60):
                test = some_test(random, list(names))
                lot = passing(every(names), test)
                for plan in plans:
                    self.assertIs(has_plan(lot, plan), holds(test, store_of(plan)), (test, plan.text))
                    self.assertIs(plan_holds(test, plan), holds(test, store_of(plan)))

    def test_the_plans_of_the_lot_alone(self):
        lot = Lot("xy", (box("xy>0", "2+2", "0"), box("x>1 -. y>0", "1", "1+", "3"), box("x. y!", "0")))
        self.assertEqual(box_texts(passing(lot, "x = y")), ["xy>0 | 2+2 | 0"])
        self.assertEqual(box_texts(passing(lot, "x != y and x != END")), ["x>1 -. y>0 | 1 , 1+ | 3"])
        self.assertEqual(box_texts(passing(lot, "x = END or x = y")), ["x. y! |  | 0", "xy>0 | 2+2 | 0"])
        self.assertEqual(box_texts(passing(test="x != x", lot=lot)), [])
        self.assertEqual(len(passing(Lot("abcd", (box("abc. d!", "0"), box("a! bcd.", "0"))), "b = END and c = d").boxes), 1)

    def test_errors(self):
        for value in odd_values(but=(Lot,)):
            self.asks("NotALot", value, passing, value, None)
        for value in NO_TESTS + list(odd_values()):
            self.asks("InvalidTest", value, passing, LOT, value)
        self.asks("UnknownName", "b", passing, LOT, "z = x or x = b or y = b")
        self.asks("UnknownName", "y", passing, LOT, "x = y")


if __name__ == "__main__":
    unittest.main()
