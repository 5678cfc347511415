"""What the document promises over the whole program ([2] to [5])."""

import itertools
import unittest
from random import Random

from arrowcells.ahead import ahead
from arrowcells.benches import Bench
from arrowcells.broken import broken, leaking
from arrowcells.certificates import (certify_alike, certify_inside, certify_keeps, certify_kept, certify_meet, certify_no_leak,
                                     certify_possible, certify_promise, certify_run, certify_same)
from arrowcells.checker import accepts
from arrowcells.consoles import Console
from arrowcells.differ import differing
from arrowcells.farruns import far_run
from arrowcells.fits import keeps
from arrowcells.images import failing, image
from arrowcells.inside import follows, least_plan, parting_plan, parting_store
from arrowcells.lengths import Lengths
from arrowcells.lots import every, has_plan, has_store, lot_of
from arrowcells.lotsums import either, minus
from arrowcells.planruns import plan_run
from arrowcells.plans import Plan, are_alike, plan_of, store_of
from arrowcells.promises import found_promise, loop_text, promise_broken
from arrowcells.runs import run
from arrowcells.stores import Store, read_store
from arrowcells.sums import union
from tests.chosen import some_lot, some_sayings, some_shapes, some_straight, some_test
from tests.helpers import odd_values, plans_up_to, raised, some_stores
from tests.naive import are_matched
from tests.test_benches import some_change, state

HUGE = 10 ** 30


class PromisedTest(unittest.TestCase):
    def test_plans(self):
        random = Random(21)
        for names in ("x", "xy", "abc"):
            for first, second in itertools.combinations(list(some_stores(random, names, 60)), 2):
                told = are_matched(first.names, first.cells, second.names, second.cells)
                self.assertIs(plan_of(first) == plan_of(second), told)
                self.assertIs(are_alike(first, second), told)

    def test_sayings(self):
        random = Random(22)
        parted = 0
        for names in ("x", "xy"):
            sayings = list(some_sayings(random, names, 24, 2, 3))
            lots = [lot_of(saying, names) for saying in sayings]
            for store in some_stores(random, names, 60):
                for saying, lot in zip(sayings, lots):
                    self.assertIs(keeps(store, saying), has_store(lot, store))
                    self.assertIs(keeps(store, saying), keeps(store_of(plan_of(store)), saying))
            for saying, other in zip(sayings, sayings[1:]):
                store = parting_store(saying, other, names)
                self.assertIs(follows(saying, other, names), store is None)
                smaller = [plan for plan in plans_up_to(names, 4) if keeps(store_of(plan), saying) and not keeps(store_of(plan), other)]
                if store is not None:
                    parted += 1
                    self.assertTrue(keeps(store, saying) and not keeps(store, other))
                    self.assertEqual(store_of(smaller[0]) if smaller else store, store)
                else:
                    self.assertEqual(smaller, [])
        self.assertGreater(parted, 10)

    def test_programs(self):
        random = Random(23)
        for names in ("x", "xy"):
            shapes = some_shapes(random, names)
            for _ in range(40):
                lot, goal, program = some_lot(random, names, shapes), some_lot(random, names, shapes, 20), some_straight(random, names, 5)
                behind, bad, before = image(lot, program), failing(lot, program), ahead(program, goal)
                # Stores of the plans of the lot, with their cells at any places.
                for plan in random.sample(plans_up_to(names, 4), 40):
                    if not has_plan(lot, plan):
                        continue
                    store = moved(random, store_of(plan))
                    told = run(program, store, 400)
                    self.assertEqual(plan_run(program, plan, 400).plan, plan_of(told.store))
                    self.assertIs(has_plan(bad, plan), told.word == "fault")
                    if told.word == "done":
                        self.assertTrue(has_store(behind, told.store))
                    self.assertIs(has_plan(before, plan), told.word == "done" and has_store(goal, told.store))
                    if broken(lot, program, goal) is None:
                        self.assertTrue(told.word == "done" and has_store(goal, told.store))
                    if leaking(lot, program) is None and told.word == "done":
                        self.assertLessEqual(plan_of(told.store).lost, plan.lost)

    def test_loops(self):
        random = Random(24)
        kept, ended = 0, 0
        bodies = ["x = next x", "t = next x; drop x; x = t", "t = next x; next x = y; y = x; x = t", "x = next x; if y != END { y = next y }",
                  "y = new; next y = x; x = next x", "if y = END { x = next x } else { y = next y }"]
        for _ in range(150):
            body, test = random.choice(bodies), random.choice(["x != END", "x != END", "x != y", some_test(random, list("xy"))])
            before = lot_of(random.choice(["chain x END 0+ * chain y END 0+", "chain x END 2 3 * y = END", "chain x END 1+2 * chain y END 0+2"]), "xy")
            promise = found_promise(before, test, body) or before
            weights = random.choice([(("x", 1),), (("x", 2), ("y", 1)), (("x", 1), ("y", 1))])
            after = every("xy")
            told = promise_broken(before, test, body, promise, after, weights)
            kept += told is None
            if told is not None:
                continue
            loop = loop_text("xy", test, body)
            for plan in plans_up_to("xy", 4):
                if has_plan(before, plan):
                    behind = plan_run(loop, plan, 400)
                    self.assertEqual(behind.word, "done", (loop, plan.text))
                    self.assertTrue(has_plan(promise, behind.plan))
                    ended += 1
        self.assertGreater(min(kept, ended), 20)

    def test_benches(self):
        random = Random(25)
        for store in some_stores(random, "xy", 60):
            bench, states = Bench(store), []
            states.append(state(bench))
            for _ in range(20):
                before = state(bench)
                word, given = some_change(random, "xy")
                if raised(getattr(bench, word), *given) is not None:
                    self.assertEqual(state(bench), before)
                elif word == "undo":
                    states.pop()
                else:
                    states.append(state(bench))
                self.assertEqual(state(bench), states[-1])
                self.assertTrue(all(keeps(bench.now, saying) for saying in bench.wishes))
            for expected in states[-2::-1]:
                bench.undo()
                self.assertEqual(state(bench), expected)

    def test_checker(self):
        random = Random(26)
        words = set()
        for names in ("x", "xy"):
            sayings = list(some_sayings(random, names, 16, 2, 3)) + ["rest", "chain x END 0+ * rest"]
            for _ in range(30):
                first, second, third = random.choices(sayings, k=3)
                program, other = some_straight(random, names, 4), some_straight(random, names, 4)
                stores = list(some_stores(random, names, 2))
                weights = random.choice([None, (("x", 1),)])
                for found in (certify_keeps(stores[0], first), certify_possible(names, first), certify_inside(names, first, second),
                              certify_run(program, stores[0], 400), certify_alike(*stores), certify_alike(stores[0], moved(random, stores[0])),
                              certify_kept(names, first, program, second), certify_same(names, program, other, first),
                              certify_same(names, program, program, first), certify_no_leak(names, first, program),
                              certify_promise(names, first, some_test(random, list(names)), program, second, third, weights),
                              certify_promise(names, first, f"{names[0]} = {names[0]}", "none", first, "rest", None),
                              certify_meet(random.randint(0, 9), random.randint(1, 9), 1, random.randint(1, 4), 0)):
                    if found is not None:
                        self.assertIs(accepts(*found), True, found)
                        words.add(found[0][0])
        self.assertEqual(len(words), 18)


def moved(random, store):
    """A store with the same plan, the cells and gone places of which have other numbers."""
    places = sorted(({place for pair in store.cells for place in pair} | {place for _, place in store.names}) - {0})
    others = {**dict(zip(places, random.sample(range(1, 1000), len(places)))), 0: 0}
    return Store(tuple((letter, others[place]) for letter, place in store.names),
                 tuple(sorted((others[place], others[to]) for place, to in store.cells)))


class ValuesTest(unittest.TestCase):
    def objects(self):
        """Functions that make objects which are equal if they are made alike, and others that make such as are not."""
        equal = [lambda: read_store("x=1 | 1>0"), lambda: Plan("x>1 -.", (HUGE,), 0), lambda: Lengths("1+2"),
                 lambda: union(Lengths("1"), Lengths("2+"))]
        alone = [lambda: every("x"), lambda: run("x = x", STORE, 9), lambda: plan_run("none", plan_of(STORE), 9), lambda: Bench(STORE),
                 lambda: far_run("none", plan_of(STORE)), lambda: Console(Bench(STORE)), lambda: either(every("x"), every("x"))]
        return equal, alone

    def test_objects(self):
        equal, alone = self.objects()
        for make in equal:
            one, other = make(), make()
            self.assertTrue(one == other and not one != other)
        for make in alone:
            one, other = make(), make()
            self.assertTrue(one == one and one != other and not one == other)
        made = [make() for make in equal + alone]
        for one, other in itertools.permutations(made, 2):
            self.assertFalse(one == other)
            self.assertTrue(one != other)
        for one in made:
            self.assertTrue(one)
            for value in odd_values(but=(type(one),)):
                self.assertIs(one == value, False)
                self.assertIs(one != value, True)

    def test_equal_calls_return_equal_results(self):
        random = Random(27)
        for store in some_stores(random, "xy", 40):
            program = some_straight(random, "xy", 4)
            first, second = run(program, store, 400), run(program, store, 400)
            self.assertEqual((first.store, first.word, first.steps, first.reads), (second.store, second.word, second.steps, second.reads))
            self.assertEqual(certify_run(program, store, 400), certify_run(program, store, 400))
            lot = every("xy")
            self.assertEqual(least_plan(minus(lot, image(lot, program))), least_plan(minus(lot, image(lot, program))))
            self.assertIsNone(parting_plan(image(lot, program), image(lot, program)))
            self.assertEqual(differing(program, "none", lot), differing(program, "none", lot))


STORE = read_store("x=1 | 1>0")


if __name__ == "__main__":
    unittest.main()
