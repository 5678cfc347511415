"""Least plans for which programs do not do what they should ([27])."""

import unittest
from random import Random

from arrowcells.broken import broken, is_kept, leaking
from arrowcells.fits import keeps
from arrowcells.images import image
from arrowcells.lots import Lot, every, has_plan, lot_of
from arrowcells.lotsums import either
from arrowcells.planruns import plan_run
from arrowcells.plans import store_of
from arrowcells.runs import run
from tests.chosen import some_lot, some_sayings, some_shapes, some_straight
from tests.helpers import LOT, Asking, box, odd_values, place_of_plan, plans_up_to
from tests.test_programs import NO_PROGRAMS
from tests.test_sayings import BAD

POP = "t = next x; drop x; x = t"
TURN = "t = next x; next x = y; y = x; x = t"


def text_of(plan):
    return None if plan is None else plan.text


class AtRandom:
    """Lots and programs at random, to stand beside TestCase."""

    def cases(self, random, names, many, size):
        """Tuples of a lot, a goal, a program, and the pairs of plans of the lot and runs, up to a size, in their order."""
        shapes = some_shapes(random, names)
        for _ in range(many):
            told = random.sample(shapes, random.choice([1, 2, 3]))
            lot, program = some_lot(random, names, told, 4, 2), some_straight(random, names)
            goal = some_lot(random, names, shapes, 30, 2)
            if random.random() < 0.5:
                # Most of what the program leads to, so that some plans are not broken.
                goal = either(goal, Lot(names, tuple(one for one in image(lot, program).boxes if random.random() < 0.8)))
            pairs = [(plan, plan_run(program, plan, 400)) for plan in plans_up_to(names, size, told) if has_plan(lot, plan)]
            yield lot, goal, program, pairs

    def check_first(self, plan, plans, size):
        """A plan is the first one of those that are told up to a size."""
        first = min(plans, key=place_of_plan, default=None)
        if plan is None or plan.size > size:
            self.assertIsNone(first)
        else:
            self.assertEqual(text_of(plan), text_of(first))


class BrokenTest(unittest.TestCase, Asking, AtRandom):
    def test_told_plans(self):
        lists = lot_of("chain x END 0+", "x")
        self.assertEqual(text_of(broken(lists, POP, lists)), "x. | none | 0")
        self.assertIsNone(broken(lot_of("chain x END 1+", "x"), POP, lists))
        self.assertEqual(text_of(broken(lot_of("chain x END 1+", "x"), POP, lot_of("chain x END 0+2", "x"))), "x>1 -. | 2 | 0")
        self.assertEqual(text_of(broken(lot_of("chain x END 1 3+4", "x"), POP, lot_of("chain x END 0 2 6+4", "x"))), None)
        self.assertEqual(text_of(broken(lot_of("chain x END 1 3+4", "x"), POP, lot_of("chain x END 0 2 10+4", "x"))), "x>1 -. | 7 | 0")
        self.assertIsNone(broken(before=Lot("x", ()), program="drop x", after=Lot("x", ())))
        two = lot_of("chain x END 1+ * chain y END 0+", "xy")
        self.assertIsNone(broken(two, TURN, lot_of("chain x END 0+ * chain y END 1+", "xy")))
        self.assertEqual(text_of(broken(two, TURN, two)), "x>1 y. | 1 | 0")
        four = Lot("abcd", (box("abc>1 -. d!", "2+", "0"),))
        self.assertEqual(text_of(broken(four, "a = next a; drop a", Lot("abcd", ()))), "abc>1 -. d! | 2 | 0")
        self.assertEqual(text_of(broken(four, "a = next a; drop a", Lot("abcd", (box("a! bc>0 d!", "1", "0"),)))),
                         "abc>1 -. d! | 3 | 0")

    def test_plans_at_random(self):
        found = {True: 0, False: 0}
        for names, many, size, seed in (("x", 50, 9, 101), ("xy", 90, 7, 102), ("abc", 40, 6, 103), ("abcd", 30, 6, 104)):
            for lot, goal, program, pairs in self.cases(Random(seed), names, many, size):
                plan = broken(lot, program, goal)
                bad = [one for one, told in pairs if told.word == "fault" or not has_plan(goal, told.plan)]
                self.check_first(plan, bad, size)
                found[plan is None] += 1
        self.assertGreater(min(found.values()), 40)

    def test_errors(self):
        for value in odd_values(but=(Lot,)):
            self.asks("NotALot", value, broken, value, None, None)
            self.asks("NotALot", value, broken, LOT, "a = b; c = d", value)
        for value in NO_PROGRAMS + list(odd_values()):
            self.asks("InvalidProgram", value, broken, LOT, value, None)
        self.tells("HasLoop", {}, broken, LOT, "while x = y { none }", None)
        self.tells("OtherNames", {"names": "x", "other": "xy"}, broken, LOT, "a = b; c = d", every("xy"))
        self.asks("TooMany", 5, broken, LOT, "a = b; c = d", LOT)
        self.asks("TooMany", 6, broken, Lot("wxyz", ()), "a = b", Lot("wxyz", ()))


class IsKeptTest(unittest.TestCase, Asking):
    def test_told_sayings(self):
        for names, saying, program, other, expected in (
                ("x", "chain x END 3+2", POP, "chain x END 2+2", True), ("x", "chain x END 3+2", POP, "chain x END 4+2", False),
                ("x", "chain x END 0+", POP, "chain x END 0+", False), ("x", "lost none", "drop x; drop x", "lost none", True),
                ("xy", "chain x END 1+ * chain y END 0+", TURN, "chain x END 0+ * chain y END 1+", True),
                ("xy", "chain x END 1+2 * chain y END 0+2", TURN, "chain x END 0+2 * chain y END 1+2", True),
                ("xy", "chain x END 1+2 * chain y END 0+2", TURN, "chain x END 0+2 * chain y END 3+2", False),
                ("x", "some h : chain x h 0+ * chain h h 1+", "x = next x", "some h : chain x h 0+ * chain h h 1+", False),
                ("x", "chain x x 1+", "x = next x", "chain x x 1+", True), ("xy", "rest", "x = y", "x = y * rest", True)):
            self.assertIs(is_kept(names, saying, program, other), expected, (saying, program, other))
        self.assertIs(is_kept(program="none", other="rest", names="x", saying="rest"), True)

    def test_sayings_at_random(self):
        random = Random(105)
        many = {True: 0, False: 0}
        stores = {"x": [store_of(plan) for plan in plans_up_to("x", 6)], "xy": [store_of(plan) for plan in plans_up_to("xy", 4)]}
        for names in ("x", "xy"):
            sayings = list(some_sayings(random, names, 40, 3, 3))
            for first, second in zip(sayings, sayings[1:]):
                program = some_straight(random, names, 5)
                kept = is_kept(names, first, program, second)
                if random.random() < 0.5:
                    continue
                for store in stores[names]:
                    if kept and keeps(store, first):
                        told = run(program, store, 400)
                        self.assertTrue(told.word == "done" and keeps(told.store, second), (first, program, second))
                plan = broken(lot_of(first, names), program, lot_of(second, names))
                self.assertIs(kept, plan is None)
                if plan is not None:
                    told = run(program, store_of(plan), 400)
                    self.assertTrue(keeps(store_of(plan), first))
                    self.assertFalse(told.word == "done" and keeps(told.store, second))
                many[kept] += 1
        self.assertGreater(min(many.values()), 2)

    def test_errors(self):
        for value in list(odd_values()) + ["yx", "abcde"]:
            self.asks("InvalidNames", value, is_kept, value, None, None, None)
        for value in list(odd_values()) + BAD:
            self.asks("InvalidSaying", value, is_kept, "xyz", value, None, None)
            self.asks("InvalidSaying", value, is_kept, "xyz", "gone a", "a = b; c = d", value)
        for value in NO_PROGRAMS + list(odd_values()):
            self.asks("InvalidProgram", value, is_kept, "xyz", "gone a", value, None)
        self.tells("HasLoop", {}, is_kept, "xyz", "gone a", "while x = y { none }", None)
        self.asks("UnknownName", "q", is_kept, "xyz", "gone q", "a = b; c = d", "gone a")
        self.asks("UnknownName", "a", is_kept, "xyz", "gone x", "a = b; c = d", "gone a")
        self.asks("TooMany", 3, is_kept, "xyz", "gone x", "a = b; c = d", "gone x")
        self.asks("TooMany", 6, is_kept, "xy", "gone x", "a = b; c = d", "gone x")


class LeakingTest(unittest.TestCase, Asking, AtRandom):
    def test_told_plans(self):
        lists = lot_of("chain x END 0+", "x")
        for program, expected in (("x = next x", "x>1 -. | 1 | 0"), (POP, None), ("drop x", "x>1 -. | 2 | 0"), ("x = END", "x>1 -. | 1 | 0"),
                                  ("t = new", "x. | none | 0"), ("t = new; drop t", None), ("next x = x", "x>1 -. | 2 | 0"),
                                  ("x = new; drop x; drop x", None), ("next x = END", "x>1 -. | 2 | 0"),
                                  ("x = next x; x = next x; x = next x", "x>1 -. | 3 | 0"), ("t = x; x = next x; drop t", None)):
            self.assertEqual(text_of(leaking(lists, program)), expected, program)
        self.assertEqual(text_of(leaking(Lot("x", (box("x>1 -.", "1 4+3", "5+2"),)), "drop x")), "x>1 -. | 4 | 5")
        self.assertIsNone(leaking(lot=Lot("abcd", ()), program="a = new; a = new"))

    def test_plans_at_random(self):
        found = {True: 0, False: 0}
        for names, many, size, seed in (("x", 50, 9, 106), ("xy", 90, 7, 107), ("abc", 40, 6, 108), ("abcd", 30, 6, 109)):
            for lot, _, program, pairs in self.cases(Random(seed), names, many, size):
                plan = leaking(lot, program)
                bad = [one for one, told in pairs if told.word == "done" and told.plan.lost > one.lost]
                self.check_first(plan, bad, size)
                found[plan is None] += 1
        self.assertGreater(min(found.values()), 40)

    def test_errors(self):
        for value in odd_values(but=(Lot,)):
            self.asks("NotALot", value, leaking, value, None)
        for value in NO_PROGRAMS + list(odd_values()):
            self.asks("InvalidProgram", value, leaking, LOT, value)
        self.tells("HasLoop", {}, leaking, Lot("wxyz", ()), "while a = b { none }")
        self.asks("TooMany", 6, leaking, Lot("wxyz", ()), "a = b")


if __name__ == "__main__":
    unittest.main()
