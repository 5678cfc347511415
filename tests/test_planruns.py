"""Runs on plans ([26])."""

import unittest
from random import Random

from arrowcells.lots import every, has_plan
from arrowcells.planruns import PlanRun, plan_done, plan_holds, plan_run
from arrowcells.plans import Plan, plan_of, store_of
from arrowcells.programs import is_deed, is_program
from arrowcells.runs import done, holds, run
from tests.chosen import some_program, some_test
from tests.helpers import PLAN, Asking, odd_values, raised, small_plans, some_stores
from tests.test_programs import NO_PROGRAMS, NO_TESTS

HUGE = 10 ** 30
TURN = "while x != END { t = next x; next x = y; y = x; x = t }"


def text_behind(program, shape, lengths, lost, most=400):
    """The word of a run on a plan, and the text of the plan behind it."""
    told = plan_run(program, Plan(shape, lengths, lost), most)
    return f"{told.word}: {told.plan.text}"


def some_deeds(letters):
    """All deeds over letters."""
    for first in letters:
        yield "new", first
        yield "drop", first
        for second in letters + "?":
            word = "END" if second == "?" else second
            for name in ("copy", "next", "tie"):
                if is_deed((name, first, word)):
                    yield name, first, word


class PlanRunTest(unittest.TestCase, Asking):
    def test_a_run_tells_all(self):
        told = plan_run(TURN, Plan("x>1 ->1 y.", (1, 2), 0), 400)
        self.assertIsInstance(told, PlanRun)
        self.assertEqual((told.word, told.plan.text, told.steps, told.deed), ("done", "x. y>2 ->2 | 1 2 | 0", 26, None))
        self.assertTrue(told == told and not told != told and told)
        self.assertFalse(told == plan_run(TURN, Plan("x>1 ->1 y.", (1, 2), 0), 400) or told == 1)

    def test_great_lengths(self):
        self.assertEqual(text_behind("x = next x", "x>1 -.", (HUGE,), HUGE), f"done: x>1 -. | {HUGE - 1} | {HUGE + 1}")
        self.assertEqual(text_behind("x = END", "x>1 ->1", (HUGE, HUGE), HUGE), f"done: x. | none | {3 * HUGE}")
        self.assertEqual(text_behind("drop x", "x>0", (HUGE,), 0), f"done: x! | none | {HUGE - 1}")
        self.assertEqual(text_behind("next x = x", "x>1 -.", (HUGE,), HUGE), f"done: x>0 | 1 | {2 * HUGE - 1}")
        self.assertEqual(text_behind("y = next x; next y = y", "x>1 y.", (HUGE,), 0),
                         f"done: x>1 y>1 | 1 1 | {HUGE - 2}")

    def test_stretches_are_joined(self):
        plan = Plan("x>1 y>2 -.", (HUGE, HUGE), 7)
        told = plan_run("y = END", plan, 1)
        self.assertEqual((told.word, told.plan.text), ("done", f"x>1 y. | {2 * HUGE} | 7"))
        self.assertEqual(told.plan.size, 2 * HUGE + 7)
        # What was told may be passed again, although no Plan is made with such a length.
        again = plan_run("x = next x; drop x", told.plan, 9)
        self.assertEqual((again.word, again.plan.lost), ("done", 2 * HUGE + 6))
        self.assertEqual(plan_done(told.plan, ("new", "y")).lengths, (2 * HUGE, 1))
        self.assertTrue(has_plan(every("xy"), told.plan) and plan_holds("x != y", told.plan))
        self.assertEqual(raised(store_of, told.plan), ("TooMany", {"given": 2 * HUGE + 7}))
        self.assertTrue(plan.comes_before(told.plan) is False and told.plan == plan_done(plan, ("copy", "y", "END")))

    def test_all_small_plans_and_deeds(self):
        for names in ("x", "xy"):
            for plan in small_plans(names, 2, 1):
                store = store_of(plan)
                for deed in some_deeds(names):
                    told = raised(done, store, deed)
                    self.assertEqual(raised(plan_done, plan, deed), told)
                    if told is None:
                        self.assertEqual(plan_done(plan, deed), plan_of(done(store, deed)), (plan.text, deed))

    def test_runs_at_random(self):
        random = Random(71)
        words = {}
        for _ in range(700):
            names = random.choice(["x", "xy", "axy", "bcxy"])
            letters = list(names) + [letter for letter in "tuab" if letter not in names][:random.randint(0, 4 - len(names))]
            text = some_program(random, letters, random.randint(0, 12))
            if is_program(text):
                for store in some_stores(random, names, 5):
                    most = random.choice([400, 400, 0, 1, 5, 17])
                    plan = plan_of(store)
                    told = plan_run(text, plan, most)
                    # Stores with the same plan are led to stores with the same plan, the canonical one too.
                    for one in (store, store_of(plan)):
                        expected = run(text, one, most)
                        self.assertEqual((told.word, told.steps, told.deed), (expected.word, expected.steps, expected.deed))
                        self.assertEqual(told.plan, plan_of(expected.store), (text, store.text, most))
                    words[told.word] = words.get(told.word, 0) + 1
        self.assertGreater(min(words.values()), 300)

    def test_far_lengths_do_as_long_ones(self):
        random = Random(72)
        plans = [plan for plan in small_plans("xy", 2, 1)]
        for _ in range(300):
            text = some_program(random, list("xyt"), random.randint(1, 9), 1, False)
            plan = random.choice(plans)
            if not is_program(text):
                continue
            # No run of so few steps comes to the end of a stretch of 40 cells.
            short = Plan(plan.shape, tuple(1 if length == 1 else 40 for length in plan.lengths), plan.lost)
            far = Plan(plan.shape, tuple(1 if length == 1 else HUGE for length in plan.lengths), plan.lost)
            told, expected = plan_run(text, far, 400), plan_run(text, short, 400)
            self.assertEqual((told.word, told.steps, told.deed, told.plan.shape),
                             (expected.word, expected.steps, expected.deed, expected.plan.shape))
            numbers = zip(told.plan.lengths + (told.plan.lost,), expected.plan.lengths + (expected.plan.lost,))
            self.assertTrue(all((more - less) % (HUGE - 40) == 0 for more, less in numbers), (text, far.text))

    def test_no_bound_for_cells(self):
        told = plan_run("while x = x { y = new }", Plan("x>0 y.", (HUGE,), HUGE), 400)
        self.assertEqual((told.word, told.steps, told.plan.text), ("long", 400, f"x>0 y>2 -. | {HUGE} 1 | {HUGE + 199}"))
        self.assertEqual(plan_run("drop x; drop x", Plan("x>0", (101,), 0), 400).deed, 1)

    def test_steps_that_are_let(self):
        plan = Plan("x>1 y.", (3,), 0)
        for most in range(16):
            told = plan_run(TURN, plan, most)
            self.assertEqual((told.word, told.steps, told.deed), ("long", most, None))
        self.assertEqual((plan_run(TURN, plan, 16).word, plan_run("none", plan, 0).word), ("done", "done"))
        self.assertEqual((plan_run("drop y", plan, 0).word, plan_run("drop y", plan, 1).word), ("long", "fault"))

    def test_errors(self):
        for value in NO_PROGRAMS + list(odd_values()):
            self.asks("InvalidProgram", value, plan_run, value, None, None)
        four = Plan("wxyz.", (), 0)
        for value in odd_values(but=(Plan,)):
            self.asks("NotAPlan", value, plan_run, "t = u", value, None)
        for value in list(odd_values()) + [401, -1, "5"]:
            self.asks("InvalidNumber", value, plan_run, "t = u", four, value)
        self.asks("TooMany", 6, plan_run, "t = u", four, 0)
        self.asks("TooMany", 5, plan_run, "t = u; v = w; w = x", PLAN, 0)
        self.assertEqual(plan_run(most=1, plan=PLAN, program="drop x").plan.text, "x! | none | 0")


class PlanDoneTest(unittest.TestCase, Asking):
    def test_errors(self):
        for value in odd_values(but=(Plan,)):
            self.asks("NotAPlan", value, plan_done, value, None)
        for value in list(odd_values()) + [("copy", "x"), ("next", "x", "END"), ["drop", "x"], "drop x"]:
            self.asks("InvalidDeed", value, plan_done, PLAN, value)
        gone = Plan("x!", (), 0)
        self.asks("UnknownName", "a", plan_done, gone, ("copy", "z", "a"))
        self.asks("UnknownName", "z", plan_done, gone, ("next", "z", "x"))
        self.asks("Failed", ("drop", "x"), plan_done, gone, ("drop", "x"))
        self.asks("Failed", ("next", "x", "x"), plan_done, Plan("x.", (), HUGE), ("next", "x", "x"))
        self.assertEqual(plan_done(deed=("tie", "x", "x"), plan=Plan("x>1 -.", (HUGE,), 1)).text, f"x>0 | 1 | {HUGE}")


class PlanHoldsTest(unittest.TestCase, Asking):
    def test_tests_at_random(self):
        random = Random(73)
        for store in some_stores(random, "abx", 300):
            test = some_test(random, list("abx"))
            self.assertIs(plan_holds(test, plan_of(store)), holds(test, store), (test, store.text))
        self.assertIs(plan_holds(plan=Plan("x>0 y>1", (HUGE, 1), 0), test="x = y"), False)

    def test_errors(self):
        for value in NO_TESTS + list(odd_values()):
            self.asks("InvalidTest", value, plan_holds, value, None)
        for value in odd_values(but=(Plan,)):
            self.asks("NotAPlan", value, plan_holds, "a = b", value)
        self.asks("UnknownName", "b", plan_holds, "z = x or x = b or x = c", PLAN)


if __name__ == "__main__":
    unittest.main()
