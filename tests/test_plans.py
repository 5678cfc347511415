"""Plans, knots, stretches, canonical stores, the order of plans ([10] to [13])."""

import unittest
from random import Random

from arrowcells.plans import Plan, are_alike, knots_of, plan_of, read_plan, store_of, stretches_of, tidy
from arrowcells.shapes import knot_words
from arrowcells.stores import Store, read_store
from tests import naive
from tests.helpers import PLAN, STORE, Asking, odd_values, small_plans, some_stores

HUGE = 10 ** 30


class PlanTest(unittest.TestCase, Asking):
    def test_attributes(self):
        plan = Plan("x>1 y>1", (1, 2), 2)
        self.assertEqual((plan.shape, plan.lengths, plan.lost, plan.size), ("x>1 y>1", (1, 2), 2, 5))
        self.assertEqual((plan.letters, plan.text), ("xy", "x>1 y>1 | 1 2 | 2"))
        empty = Plan(lost=0, lengths=(), shape="bx!")
        self.assertEqual((empty.size, empty.letters, empty.text), (0, "bx", "bx! | none | 0"))

    def test_bounds(self):
        plan = Plan("x>1 ->1", (HUGE, 1), HUGE)
        self.assertEqual(plan.size, 2 * HUGE + 1)
        self.assertEqual(plan.text, "x>1 ->1 | 1" + "0" * 30 + " 1 | 1" + "0" * 30)
        for lengths in ((0, 1), (1, 0), (HUGE + 1, 1), (1, HUGE + 1), (1,), (1, 1, 1), (), (True, 1), (1, "1"), [1, 1],
                        (1, -1), (1, None), ((1,), 1)):
            self.asks("InvalidLengths", lengths, Plan, "x>1 ->1", lengths, 0)
        for lost in (-1, HUGE + 1, True, False, "0", (0,), None):
            self.asks("InvalidNumber", lost, Plan, "x.", (), lost)

    def test_wrong_arguments_in_their_order(self):
        for value in odd_values():
            self.asks("InvalidShape", value, Plan, value, None, None)
        for value in odd_values(but=((1,),)):
            self.asks("InvalidLengths", value, Plan, "x>0", value, None)
        for value in odd_values(but=((),)):
            self.asks("InvalidLengths", value, Plan, "x.", value, None)
        for value in odd_values():
            self.asks("InvalidNumber", value, Plan, "x.", (), value)

    def test_equal_exactly_by_shape_lengths_and_lost(self):
        plan = Plan("x>1 -.", (3,), 1)
        self.assertTrue(plan == Plan("x>1 -.", (3,), 1) and not plan != Plan("x>1 -.", (3,), 1))
        for other in (Plan("x>1 -!", (3,), 1), Plan("x>1 -.", (4,), 1), Plan("x>1 -.", (3,), 0), Plan("y>1 -.", (3,), 1)):
            self.assertTrue(plan != other and not plan == other)
        for other in odd_values(but=(Plan,)):
            self.assertIs(plan == other, False)
            self.assertIs(plan != other, True)
        self.assertTrue(plan)

    def test_order(self):
        plans = [Plan("x!", (), 0), Plan("x.", (), 0), Plan("x!", (), 1), Plan("x.", (), 1), Plan("x>0", (1,), 0),
                 Plan("x!", (), 2), Plan("x>0", (1,), 1), Plan("x>0", (2,), 0), Plan("x>1 ->1", (1, 1), 0),
                 Plan("x>1 ->1", (1, 2), 0), Plan("x>1 ->1", (2, 1), 0), Plan("x!", (), HUGE),
                 Plan("x>0", (HUGE,), 0), Plan("x>1 ->1", (1, HUGE - 1), 0), Plan("x>1 ->1", (HUGE, HUGE), HUGE)]
        for number, plan in enumerate(plans):
            for behind, other in enumerate(plans):
                self.assertIs(plan.comes_before(other), number < behind, (plan.text, other.text))
        self.assertIs(plans[0].comes_before(other=plans[1]), True)

    def test_comes_before_asks_for_a_plan(self):
        self.asks_for_all("NotAPlan", odd_values(but=(Plan,)), PLAN.comes_before)

    def test_all_orders_with_the_plain_key(self):
        plans = list(small_plans("x", 3, 2))
        key = sorted(plans, key=lambda plan: (plan.size, plan.shape, plan.lengths, plan.lost))
        for first, second in zip(key, key[1:]):
            self.assertTrue(first.comes_before(second) and not second.comes_before(first))


class PlanOfTest(unittest.TestCase, Asking):
    def told(self, text):
        store = read_store(text)
        return plan_of(store).text, knots_of(store), stretches_of(store)

    def test_ordinary_stores(self):
        self.assertEqual(self.told("x=3 | 1>0 3>7 7>1 8>1"), ("x>1 -. | 3 | 1", (3, 0), ((3, 7, 1),)))
        self.assertEqual(self.told("x=1 | 1>1"), ("x>0 | 1 | 0", (1,), ((1,),)))
        self.assertEqual(self.told("x=1 y=3 | 1>2 2>4 3>4 4>0"),
                         ("x>1 ->2 -. y>1 | 2 1 1 | 0", (1, 4, 0, 3), ((1, 2), (4,), (3,))))
        self.assertEqual(self.told("x=4 y=2 | 2>7 4>2 5>5 7>2 9>0"),
                         ("x>1 y>1 | 1 2 | 2", (4, 2), ((4,), (2, 7))))
        self.assertEqual(self.told("x=0 y=0 | none"), ("xy. | none | 0", (0,), ()))
        self.assertEqual(self.told("x=9 y=8 | none"), ("x! y! | none | 0", (9, 8), ()))
        self.assertEqual(self.told("x=9 y=9 | 2>0"), ("xy! | none | 1", (9,), ()))
        self.assertEqual(self.told("x=3 y=0 | 1>8 3>1"), ("x>1 -! y. | 2 | 0", (3, 8, 0), ((3, 1),)))

    def test_lost_cells_make_no_knots(self):
        self.assertEqual(self.told("x=1 | 1>2 2>0 5>2 6>5 7>7 8>9"), ("x>1 -. | 2 | 4", (1, 0), ((1, 2),)))
        # END and gone places to which only lost cells lead are no knots.
        self.assertEqual(self.told("x=1 | 1>1 5>0 6>9"), ("x>0 | 1 | 2", (1,), ((1,),)))

    def test_a_name_within_a_way(self):
        self.assertEqual(self.told("x=1 y=2 | 1>2 2>3 3>0"), ("x>1 y>2 -. | 1 2 | 0", (1, 2, 0), ((1,), (2, 3))))
        self.assertEqual(self.told("x=2 y=1 | 1>2 2>3 3>0"), ("x>1 -. y>0 | 2 1 | 0", (2, 0, 1), ((2, 3), (1,))))
        self.assertEqual(self.told("x=1 y=3 | 1>2 2>3 3>1"), ("x>1 y>0 | 2 1 | 0", (1, 3), ((1, 2), (3,))))

    def test_two_tails_into_one_ring(self):
        self.assertEqual(self.told("x=1 y=5 | 1>2 2>3 3>4 4>2 5>4"),
                         ("x>1 ->2 ->1 y>2 | 1 2 1 1 | 0", (1, 2, 4, 5), ((1,), (2, 3), (4,), (5,))))

    def test_four_names(self):
        self.assertEqual(self.told("a=1 b=2 c=3 d=9 | 1>4 2>4 3>5 4>5 5>0")[0], "a>1 ->2 ->3 -. b>1 c>2 d! | 1 1 1 1 1 | 0")

    def test_alike_exactly_if_there_is_a_matching(self):
        random = Random(3)
        for names in ("x", "xy", "axz"):
            stores = list(some_stores(random, names, 60))
            for store in stores:
                for other in stores:
                    expected = naive.are_matched(store.names, store.cells, other.names, other.cells)
                    self.assertIs(are_alike(store, other), expected, (store.text, other.text))
                    self.assertIs(plan_of(store) == plan_of(other), expected)

    def test_knots_and_stretches(self):
        for store in some_stores(Random(4), "wxyz", 200):
            knots, plan = knots_of(store), plan_of(store)
            arrows = dict(store.cells)
            cells = naive.reached(store.names, arrows)
            leads = [place for _, place in store.names]
            ends = {place for place in leads + [arrows[cell] for cell in cells] if place not in arrows}
            met = {place for place in cells if place in leads or [arrows[cell] for cell in cells].count(place) > 1}
            self.assertEqual(sorted(knots), sorted(ends | met))
            stretches = stretches_of(store)
            self.assertEqual(plan.lengths, tuple(len(row) for row in stretches))
            self.assertEqual(sorted(cell for row in stretches for cell in row), sorted(cells))
            self.assertEqual([row[0] for row in stretches], [knot for knot in knots if knot in arrows])
            words = knot_words(plan.shape)
            self.assertEqual(len(words), len(knots))
            rows = {row[0]: row for row in stretches}
            for place, (names, sign, target) in zip(knots, words):
                self.assertEqual(names, "".join(letter for letter, lead in store.names if lead == place))
                self.assertEqual(sign, ">" if place in arrows else "." if place == 0 else "!")
                if sign == ">":
                    self.assertTrue(all(arrows[cell] == to for cell, to in zip(rows[place], rows[place][1:])))
                    self.assertEqual(arrows[rows[place][-1]], knots[target])

    def test_no_store(self):
        for value in odd_values(but=(Store,)):
            for action in (plan_of, knots_of, stretches_of, tidy):
                self.asks("NotAStore", value, action, value)
            self.asks("NotAStore", value, are_alike, value, None)
            self.asks("NotAStore", value, are_alike, STORE, value)


class StoreOfTest(unittest.TestCase, Asking):
    def test_canonical_stores(self):
        told = [("x>1 y>1", (1, 2), 2, "x=1 y=2 | 1>2 2>3 3>2 4>0 5>0"), ("x.", (), 0, "x=0 | none"),
                ("x!", (), 2, "x=3 | 1>0 2>0"), ("x! y!", (), 0, "x=1 y=2 | none"), ("x>0", (3,), 0, "x=1 | 1>2 2>3 3>1"),
                ("x>1 -! y>3 -!", (1, 2), 1, "x=1 y=2 | 1>5 2>3 3>6 4>0"), ("xy>1 -.", (1,), 0, "x=1 y=1 | 1>0"),
                ("x>1 ->2 -. y>1", (2, 1, 1), 0, "x=1 y=4 | 1>2 2>3 3>0 4>3"),
                ("b>1 -.", (2,), 0, "b=1 | 1>2 2>0")]
        for shape, lengths, lost, text in told:
            self.assertEqual(store_of(Plan(shape, lengths, lost)).text, text)

    def test_names_ascend_wherever_their_knots_stand(self):
        self.assertEqual(store_of(Plan("ac>1 b.", (1,), 0)).text, "a=1 b=0 c=1 | 1>0")

    def test_its_plan_is_that_plan(self):
        for names, high, lost in (("x", 5, 2), ("xy", 2, 1)):
            for plan in small_plans(names, high, lost):
                store = store_of(plan)
                self.assertEqual(plan_of(store), plan)
                self.assertEqual([cell for cell, _ in store.cells], list(range(1, plan.size + 1)))
                self.assertEqual(tidy(store), store)

    def test_size_500_and_501(self):
        self.assertEqual(len(store_of(Plan("x>1 -.", (300,), 200)).cells), 500)
        self.assertEqual(store_of(Plan("w! x! y! z!", (), 500)).names, (("w", 501), ("x", 502), ("y", 503), ("z", 504)))
        self.asks("TooMany", 501, store_of, Plan("x>1 -.", (301,), 200))
        self.asks("TooMany", 3 * HUGE, store_of, Plan("x>1 ->1", (HUGE, HUGE), HUGE))

    def test_tidy(self):
        self.assertEqual(tidy(read_store("x=7 y=9 | 2>7 7>2 8>8")).text, "x=1 y=4 | 1>2 2>1 3>0")
        for store in some_stores(Random(5), "xyz", 100):
            self.assertEqual(tidy(store), store_of(plan_of(store)))
        self.assertEqual(tidy(store=STORE), STORE)

    def test_no_plan(self):
        self.asks_for_all("NotAPlan", odd_values(but=(Plan,)), store_of)


class ReadPlanTest(unittest.TestCase, Asking):
    def test_reads_what_text_tells(self):
        for plan in list(small_plans("x", 3, 2)) + [Plan("x>1 ->1", (HUGE, HUGE), HUGE), Plan("abcd.", (), 7)]:
            self.assertEqual(read_plan(plan.text), plan)
        self.assertEqual(read_plan(text="x. | none | 0"), Plan("x.", (), 0))

    def test_other_texts(self):
        more = str(HUGE + 1)
        wrong = ["x.", "x. | none", "x. | none | 0 | 0", "x. | | 0", "x. |  | 0", "x. | 1 | 0", "x>0 | none | 0",
                 "x>0 | 0 | 0", "x>0 | 01 | 0", "x>0 | 1 | 00", "x>0 | 1 | -1", "x>0 | 1  | 0", "x>0 |  1 | 0",
                 "x>0 | 1 | 0 ", " x>0 | 1 | 0", "x>0 | 1 1 | 0", "x>1 ->1 | 1 | 0", "x>1 ->1 | 1  1 | 0",
                 "x>0 | %s | 0" % more, "x>0 | 1 | %s" % more, "x>0 | +1 | 0", "x>1 | 1 | 0", "x>0|1|0",
                 "x>0 | 1 | none", "x>0 | 1 | ", "x>0 | 1 | 0\n", "none | none | 0", "x>0 | 1 none | 0"]
        self.asks_for_all("InvalidText", wrong, read_plan)

    def test_any_other_value(self):
        self.asks_for_all("InvalidText", odd_values(), read_plan)


if __name__ == "__main__":
    unittest.main()
