"""What lots tell: emptiness, lots inside lots, least and parting plans, what follows ([20], [21])."""

import unittest
from random import Random

from arrowcells.fits import keeps
from arrowcells.inside import (follows, is_empty, is_same, least_plan, lies_inside, parting_plan, parting_store,
                               shapes_in)
from arrowcells.lots import Lot, every, has_plan, lot_of
from arrowcells.lotsums import either, meet, minus
from arrowcells.plans import Plan, plan_of, store_of
from arrowcells.sayings import is_saying
from arrowcells.shapes import shapes
from tests.chosen import some_lot, some_sayings
from tests.helpers import LOT, Asking, box, odd_values, place_of_plan, plans_up_to
from tests.test_sayings import BAD


def first_of(plans):
    """The first one of some plans in the order of [13], None if there is none."""
    return min(plans, key=place_of_plan, default=None)


def text_of(plan):
    return None if plan is None else plan.text


class InsideTest(unittest.TestCase, Asking):
    def test_is_empty(self):
        self.assertIs(is_empty(Lot("abcd", ())), True)
        self.assertIs(is_empty(lot=every("x")), False)
        self.assertIs(is_empty(lot_of("lost none * rest", "xy")), True)
        self.assertIs(is_empty(lot_of("( gone x * rest ) and ( x = END * rest )", "x")), True)
        self.assertIs(is_empty(lot_of("( chain x END 12+6 ) and ( chain x END 11+6 1 )", "x")), True)
        self.assertIs(is_empty(meet(lot_of("chain x END 1+5", "x"), lot_of("chain x END 2+4", "x"))), False)
        self.assertIs(is_empty(minus(every("x"), lot_of("rest", "x"))), True)

    def test_inside_and_same_with_steps(self):
        fours, twos, threes = [Lot("x", (box("x>1 -.", text, "0+2"),)) for text in ("4+4", "2+2", "3+3")]
        self.assertIs(lies_inside(fours, twos), True)
        self.assertIs(lies_inside(twos, fours), False)
        self.assertIs(lies_inside(lot=twos, other=either(fours, threes)), False)
        parts = Lot("x", (box("x>1 -.", "4+12", "0+4"), box("x>1 -.", "8+12", "0+2"), box("x>1 -.", "4 12+12", "0+"),
                          box("x>1 -.", "16+12", "2+4"), box("x>1 -.", "1+", "1+2")))
        self.assertIs(lies_inside(fours, parts), True)
        self.assertIs(is_same(fours, minus(parts, minus(parts, fours))), True)
        self.assertIs(is_same(fours, parts), False)
        self.assertIs(is_same(lot=either(fours, twos), other=twos), True)
        self.assertIs(is_same(twos, Lot("x", (box("x>1 -.", "2+4", "0+2"), box("x>1 -.", "4+4", "0+2")))), True)
        self.assertIs(is_same(twos, Lot("x", (box("x>1 -.", "2+4", "0+2"), box("x>1 -.", "8+4", "0+2")))), False)
        # Only a far plan parts them.
        near = Lot("x", (box("x>1 -.", "1+2", "0+"), box("x>1 -.", "2+4", "0+"), box("x>1 -.", "4+8", "0+"), box("x>1 -.", "8+56", "0+"),
                         box("x>1 -.", "16+56", "0+"), box("x>1 -.", "24+56", "0+"), box("x>1 -.", "32+56", "0+"),
                         box("x>1 -.", "40+56", "0+"), box("x>1 -.", "48+56", "0+")))
        self.assertEqual(parting_plan(near, Lot("x", (box("x>1 -.", "1+", "0+"),))).text, "x>1 -. | 56 | 0")

    def test_steps_that_do_not_go_together(self):
        lots = [Lot("xy", (box("x>1 -. y>1", f"1+{step}", f"2+{step}", f"0+{step}"),)) for step in (59, 58, 57, 53)]
        joined = back = Lot("xy", ())
        for lot in lots:
            joined, back = either(joined, lot), either(lot, back)
        self.assertIs(is_same(joined, back), True)
        self.assertIs(lies_inside(lots[2], joined), True)
        self.assertIs(lies_inside(joined, minus(joined, lots[0])), False)
        self.assertIsNone(parting_plan(joined, back))
        self.assertEqual(parting_plan(joined, lots[0]).text, "x>1 -. y>1 | 1 2 | 53")
        # 1 and 1 are in both; then the one behind the least step.
        self.assertEqual(parting_plan(meet(lots[0], lots[1]), lots[1]).text, "x>1 -. y>1 | 1 2 | 58")

    def test_least_plan(self):
        lot = Lot("x", (box("x>1 ->1", "3", "1", "0"), box("x>1 -.", "2+", "2+"), box("x>0", "4", "0"), box("x!", "4+")))
        self.assertEqual(least_plan(lot).text, "x! | none | 4")
        self.assertEqual(least_plan(lot=Lot("x", lot.boxes[:3])).text, "x>0 | 4 | 0")
        self.assertEqual(least_plan(Lot("x", lot.boxes[:2])).text, "x>1 -. | 2 | 2")
        self.assertEqual(least_plan(Lot("x", (box("x>1 ->1", "2+", "1", "0"), box("x>1 ->1", "1", "2", "0")))).text,
                         "x>1 ->1 | 1 2 | 0")
        self.assertEqual(least_plan(Lot("x", (box("x>0", "600+60", "600+60"),))).text, "x>0 | 600 | 600")
        self.assertIsNone(least_plan(Lot("x", ())))
        self.assertEqual(least_plan(every("xy")).text, "x! y! | none | 0")
        self.assertEqual(least_plan(Lot("abcd", (box("abc. d!", "7"), box("ab! cd!", "7")))).text, "ab! cd! | none | 7")

    def test_shapes_in(self):
        self.assertEqual(shapes_in(every("xy")), shapes("xy"))
        self.assertEqual(shapes_in(lot=Lot("x", (box("x>0", "1", "0"), box("x.", "0"), box("x>0", "2", "0")))), ("x.", "x>0"))
        self.assertEqual(shapes_in(Lot("abc", ())), ())
        self.assertEqual(shapes_in(minus(every("x"), lot_of("chain x END 1+ * rest", "x"))), ("x!", "x.", "x>0", "x>1 -!", "x>1 ->1"))

    def test_lots_at_random(self):
        random = Random(51)
        found = {}
        for _ in range(400):
            names, size = random.choice([("x", 12), ("xy", 7), ("xy", 7)])
            told = random.sample(shapes(names), random.choice([1, 1, 2, 3]))
            lot, other = some_lot(random, names, told), some_lot(random, names, told)
            if random.random() < 0.4:
                other = either(lot, other) if random.random() < 0.5 else meet(either(other, lot), either(lot, other))
            plans = plans_up_to(names, size, told)
            inside = [plan for plan in plans if has_plan(lot, plan)]
            outside = [plan for plan in plans if has_plan(other, plan)]
            self.check_first(least_plan(lot), inside, size)
            only = [plan for plan in inside if not has_plan(other, plan)]
            others = [plan for plan in outside if not has_plan(lot, plan)]
            parting = parting_plan(lot, other)
            self.check_first(parting, only + others, size)
            self.assertIs(is_empty(lot), least_plan(lot) is None)
            self.assertIs(is_same(lot, other), parting is None)
            is_inside = lies_inside(lot, other)
            self.assertFalse(is_inside and only)
            self.assertIs(is_inside, is_empty(minus(lot, other)))
            self.assertLessEqual({plan.shape for plan in inside}, set(shapes_in(lot)))
            key = (is_inside, parting is None)
            found[key] = found.get(key, 0) + 1
        self.assertGreater(min(found.values()), 30)

    def check_first(self, plan, plans, size):
        """A plan is the first one of those that are told up to a size."""
        first = first_of(plans)
        if plan is None or plan.size > size:
            self.assertIsNone(first)
        else:
            self.assertEqual(text_of(plan), text_of(first))

    def test_errors(self):
        for value in odd_values(but=(Lot,)):
            for action in (is_empty, least_plan, shapes_in):
                self.asks("NotALot", value, action, value)
            for action in (lies_inside, is_same, parting_plan):
                self.asks("NotALot", value, action, value, None)
                self.asks("NotALot", value, action, LOT, value)
        for action in (lies_inside, is_same, parting_plan):
            self.tells("OtherNames", {"names": "x", "other": "xy"}, action, LOT, every("xy"))
            self.tells("OtherNames", {"names": "xy", "other": "x"}, action, Lot("xy", ()), LOT)


class FollowsTest(unittest.TestCase, Asking):
    def test_told_sayings(self):
        for saying, other, names, store in (
                ("chain x END 2+2", "chain x END 0+2", "x", None),
                ("chain x END 0+2", "chain x END 2+2", "x", "x=0 | none"),
                ("chain x END 0+ * rest", "chain x END 0+", "x", "x=0 | 1>0"),
                ("chain x y 2 * chain y END 3", "chain x END 5", "xy", None),
                ("chain x END 5 * rest", "chain x y 2 * chain y END 3 * rest", "xy", "x=1 y=6 | 1>2 2>3 3>4 4>5 5>0"),
                ("chain x y 1+ * rest", "x != y * rest", "xy", "x=1 y=1 | 1>1"),
                ("some h : chain x h 1+ * chain h h 3", "not ( gone x * rest )", "x", None),
                ("rest", "( x = END * rest ) or ( gone x * rest ) or ( chain x x 0 * x != END * rest )", "x", None),
                ("rest", "( x = END * rest ) or ( chain x END 1+ * rest )", "x", "x=1 | none"),
                ("chain x END 3+4", "chain x END 1+2", "x", None),
                ("chain x END 1+2", "chain x END 3+4", "x", "x=1 | 1>0"),
                ("lost 0+6 * rest", "lost 0 12+6 * rest", "x", "x=7 | 1>0 2>0 3>0 4>0 5>0 6>0"),
                ("lost none", "rest", "x", None), ("rest", "lost none", "x", "x=1 | none")):
            found = parting_store(saying, other, names)
            self.assertEqual(text_of(found), store, (saying, other))
            self.assertIs(follows(saying, other, names), store is None)
            if store is not None:
                self.assertTrue(keeps(found, saying) and not keeps(found, other))

    def test_sayings_at_random(self):
        random = Random(52)
        plans = {"x": plans_up_to("x", 7), "xy": plans_up_to("xy", 4)}
        stores = {names: [(plan, store_of(plan)) for plan in plans[names]] for names in plans}
        many = {True: 0, False: 0}
        for names in ("x", "xy", "xy"):
            sayings = list(some_sayings(random, names, 25, 3, 3))
            for first, second in zip(sayings, sayings[1:]):
                if random.random() < 0.4:
                    wider = f"( {first} ) or ( {second} )"
                    second = wider if is_saying(wider) else first
                found = parting_store(first, second, names)
                self.assertIs(follows(saying=first, other=second, names=names), found is None)
                parted = [plan for plan, store in stores[names] if keeps(store, first) and not keeps(store, second)]
                if found is None:
                    self.assertEqual(parted, [], (first, second))
                else:
                    plan = plan_of(found)
                    self.assertEqual(store_of(plan), found)
                    self.assertTrue(keeps(found, first) and not keeps(found, second))
                    self.assertFalse([one for one in parted if one.comes_before(plan)], (first, second))
                many[found is None] += 1
        self.assertGreater(min(many.values()), 10)

    def test_errors(self):
        for action in (follows, parting_store):
            for value in list(odd_values()) + BAD:
                self.asks("InvalidSaying", value, action, value, None, None)
                self.asks("InvalidSaying", value, action, "z = a * rest", value, None)
            for value in list(odd_values()) + ["yx", "abcde"]:
                self.asks("InvalidNames", value, action, "z = a * rest", "rest", value)
            self.asks("UnknownName", "a", action, "z = a * rest", "b = c", "xyz")
            self.asks("UnknownName", "z", action, "( x = x ) or ( z = END )", "b = c", "xy")
            self.asks("UnknownName", "b", action, "x = y", "x = z * b = c", "xyz")
            self.asks("TooMany", 3, action, "x = y", "rest", "xyz")
            self.asks("TooMany", 4, action, "rest", "rest", "abcd")


if __name__ == "__main__":
    unittest.main()
