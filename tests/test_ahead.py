"""All plans that a program leads into a lot ([27])."""

import unittest
from random import Random

from arrowcells.ahead import ahead, weakest
from arrowcells.inside import is_same, shapes_in
from arrowcells.lots import Lot, every, has_plan, lot_of
from arrowcells.lotsums import minus
from arrowcells.planruns import plan_run
from arrowcells.plans import Plan, store_of
from arrowcells.fits import keeps
from arrowcells.images import failing
from arrowcells.runs import run
from arrowcells.shapes import lengths_number, shapes
from tests.chosen import some_lot, some_sayings, some_straight
from tests.helpers import Asking, box, box_texts, odd_values, plans_up_to
from tests.test_programs import NO_PROGRAMS
from tests.test_sayings import BAD

HUGE = 10 ** 30
POP = "t = next x; drop x; x = t"


class AheadTest(unittest.TestCase, Asking):
    def told(self, program, *boxes):
        """The lot ahead of the lot of some boxes over x and y, as texts."""
        return box_texts(ahead(program, Lot("xy", boxes)))

    def test_told_lots(self):
        ends = Lot("x", (box("x>1 -.", "2", "0"),))
        self.assertEqual(box_texts(ahead(POP, ends)), ["x>1 -. | 3 | 0"])
        self.assertEqual(box_texts(ahead("x = next x", ends)), [])
        self.assertEqual(box_texts(ahead("x = next x", Lot("x", (box("x>1 -.", "2", "0+"),)))), ["x>1 -. | 3 | 0+"])
        # The cell that is lost was no lost one before.
        self.assertEqual(box_texts(ahead("x = next x", Lot("x", (box("x>1 -.", "2", "3 4"),)))), ["x>1 -. | 3 | 2 3"])
        self.assertEqual(box_texts(ahead("none", ends)), ["x>1 -. | 2 | 0"])
        self.assertEqual(box_texts(ahead("drop x; drop x", ends)), [])
        self.assertEqual(ahead(program="none", lot=Lot("x", ())).boxes, ())
        self.assertTrue(is_same(ahead("none", every("xy")), every("xy")))
        self.assertTrue(is_same(ahead("x = END", every("x")), every("x")))

    def test_sums_of_joined_stretches(self):
        self.assertEqual([text for text in self.told("y = END", box("x>1 y.", "4", "0")) if text.startswith("x>1 y>2")],
                         ["x>1 y>2 -. | 1 , 3 | 0", "x>1 y>2 -. | 2 , 2 | 0", "x>1 y>2 -. | 3 , 1 | 0"])
        found = self.told("y = END", box("x>1 y.", "4+2", "0"))
        self.assertIn("x>1 y. | 4+2 | 0", found)
        self.assertIn("xy>1 -. | 4+2 | 0", found)
        lot = ahead("y = END", Lot("xy", (box("x>1 y.", "5+3", "7+5"),)))
        for first in range(1, 12):
            for second in range(1, 12):
                for lost in (0, 7, 8, 12):
                    for shape in ("x>1 y>2 -.", "x>1 ->2 -. y>1"):
                        lengths = (first, second) if shape == "x>1 y>2 -." else (first, second, 2)
                        plan = Plan(shape, lengths, lost)
                        into = (first + second - 5) % 3 == 0 and first + second >= 5
                        many = lost if shape == "x>1 y>2 -." else lost + 2
                        self.assertIs(has_plan(lot, plan), into and many >= 7 and many % 5 == 2, plan.text)
        far = Plan("x>1 y>2 -.", (HUGE, HUGE), 10 ** 29 + 2)
        self.assertIs(has_plan(lot, far), (2 * HUGE - 5) % 3 == 0)
        self.assertIs(has_plan(lot, Plan("x>1 y>2 -.", (HUGE, HUGE - (2 * HUGE - 5) % 3), 10 ** 29 + 2)), True)

    def test_lots_at_random(self):
        random = Random(91)
        for _ in range(90):
            names, size = random.choice([("x", 9), ("xy", 7), ("xy", 7)])
            goal, program = some_lot(random, names, list(shapes(names)), 40, 3), some_straight(random, names)
            found = ahead(program, goal)
            self.assertEqual(found.names, names)
            self.assertEqual(Lot(names, found.boxes).boxes, found.boxes)
            told = list(shapes(names))
            for plan in plans_up_to(names, size, random.sample(told, min(6, len(told)))):
                run_of_plan = plan_run(program, plan, 400)
                into = run_of_plan.word == "done" and has_plan(goal, run_of_plan.plan)
                self.assertIs(has_plan(found, plan), into, (program, plan.text))

    def test_greater_plans_at_random(self):
        random = Random(92)
        for _ in range(150):
            names = random.choice(["x", "xy"])
            goal, program = some_lot(random, names, list(shapes(names)), 60, 30), some_straight(random, names)
            found = ahead(program, goal)
            for _ in range(60):
                shape = random.choice(shapes(names))
                lengths = tuple(random.choice([1, 2, 3, random.randint(1, 40), 10 ** 30]) for _ in range(lengths_number(shape)))
                plan = Plan(shape, lengths, random.randint(0, 9))
                run_of_plan = plan_run(program, plan, 400)
                into = run_of_plan.word == "done" and has_plan(goal, run_of_plan.plan)
                self.assertIs(has_plan(found, plan), into, (program, plan.text))

    def test_it_parts_with_the_plans_that_fail(self):
        random = Random(93)
        for _ in range(40):
            program = some_straight(random, "xy", 7)
            self.assertTrue(is_same(ahead(program, every("xy")), minus(every("xy"), failing(every("xy"), program))), program)

    def test_errors(self):
        for value in NO_PROGRAMS + list(odd_values()):
            self.asks("InvalidProgram", value, ahead, value, None)
        self.tells("HasLoop", {}, ahead, "while x = y { none }", None)
        for value in odd_values(but=(Lot,)):
            self.asks("NotALot", value, ahead, "a = b; c = d", value)
        self.asks("TooMany", 3, ahead, "a = b", Lot("xyz", ()))
        self.asks("TooMany", 4, ahead, "none", Lot("wxyz", ()))
        self.asks("TooMany", 6, ahead, "a = b; c = d", Lot("xy", ()))
        self.assertEqual(ahead("a = b", Lot("xy", ())).names, "xy")


class WeakestTest(unittest.TestCase, Asking):
    def test_told_lots(self):
        self.assertTrue(is_same(weakest(POP, "chain x END 2", "x"), lot_of("chain x END 3", "x")))
        self.assertTrue(is_same(weakest("x = next x", "rest", "xy"), minus(every("xy"), failing(every("xy"), "x = next x"))))
        self.assertTrue(is_same(weakest("y = x", "x = y * rest", "xy"), every("xy")))
        self.assertTrue(is_same(weakest("t = new; next t = x; x = t", "chain x END 3+2", "x"), lot_of("chain x END 2+2", "x")))
        self.assertEqual(shapes_in(weakest("drop x", "gone x * rest", "x")), ("x>0", "x>1 -!", "x>1 -.", "x>1 ->1"))
        self.assertEqual(weakest(names="x", program="none", saying="lost none").boxes, ())

    def test_sayings_at_random(self):
        random = Random(94)
        for names in ("x", "xy"):
            plans = plans_up_to(names, 6 if names == "x" else 4)
            for saying in some_sayings(random, names, 25):
                program = some_straight(random, names, 6)
                found = weakest(program, saying, names)
                for plan in random.sample(plans, min(60, len(plans))):
                    told = run(program, store_of(plan), 400)
                    self.assertIs(has_plan(found, plan), told.word == "done" and keeps(told.store, saying),
                                  (program, saying, plan.text))

    def test_errors(self):
        for value in NO_PROGRAMS + list(odd_values()):
            self.asks("InvalidProgram", value, weakest, value, None, None)
        self.tells("HasLoop", {}, weakest, "while x = y { none }", None, None)
        for value in list(odd_values()) + BAD:
            self.asks("InvalidSaying", value, weakest, "a = b; c = d", value, None)
        for value in list(odd_values()) + ["yx", "abcde"]:
            self.asks("InvalidNames", value, weakest, "a = b; c = d", "gone q", value)
        self.asks("UnknownName", "q", weakest, "a = b; c = d", "gone q", "xyz")
        self.asks("TooMany", 3, weakest, "a = b; c = d", "gone x", "xyz")
        self.asks("TooMany", 5, weakest, "a = b; c = d", "gone x", "x")


if __name__ == "__main__":
    unittest.main()
