"""Counting and sweeping, lost rings, counted runs ([43], [44])."""

import unittest
from random import Random

from arrowcells.lostcells import arrows_into, counted, counted_run, lost_rings, swept, unasked
from arrowcells.plans import plan_of
from arrowcells.programs import is_program, program_tree
from arrowcells.runs import run
from arrowcells.stores import Store, read_store
from arrowcells.takings import part_without
from arrowcells.ways import lost
from tests.chosen import some_program
from tests.helpers import STORE, Asking, odd_values, small_stores, some_stores
from tests.naive import Walk
from tests.test_programs import NO_PROGRAMS
from tests.test_runs import row_of, seen

HEAP = read_store("x=1 | 1>0 2>3 3>2 4>2 5>4")


def count_down(random, names, arrows):
    """Takes away cells that nothing leads to, one by one, in any order."""
    while True:
        led_to = set(names) | set(arrows.values())
        free = sorted(set(arrows) - led_to)
        if not free:
            return
        arrows.pop(random.choice(free))


class CountedWalk(Walk):
    """A walk in which counting is done at the beginning and after each step."""

    def __init__(self, store, tree, most, random):
        self.random = random
        super().__init__(store.names, store.cells, tree, most)
        self.arrows = dict(self.cells)
        # The helpers are left out.
        count_down(random, [place for _, place in self.names], self.arrows)
        self.cells = tuple(sorted(self.arrows.items()))

    def through(self, tree, first):
        if first == 0 and self.steps == 0:
            self.count_all()
        super().through(tree, first)

    def count_all(self):
        count_down(self.random, self.at.values(), self.arrows)

    def step(self, deed, number):
        super().step(deed, number)
        self.count_all()

    def look(self, test):
        found = super().look(test)
        self.count_all()
        return found


class LostCellsTest(unittest.TestCase, Asking):
    def test_arrows_into(self):
        self.assertEqual([arrows_into(HEAP, place) for place in range(7)], [1, 0, 2, 1, 1, 0, 0])
        store = read_store("x=7 y=9 | 1>8 2>8 3>3 4>0 5>0 6>0")
        self.assertEqual([arrows_into(store, place) for place in (0, 1, 3, 7, 8, 9, 999)], [3, 0, 1, 0, 2, 0, 0])
        self.assertEqual(arrows_into(place=0, store=STORE), 1)

    def test_unasked(self):
        for text, expected in ((HEAP.text, (5,)), ("x=1 | 1>0", ()), ("x=0 | 1>0 2>1 3>3 4>3", (2, 4)), ("x=2 | 1>0 2>1 3>3", ()), ("x=5 | none", ())):
            self.assertEqual(unasked(read_store(text)), expected)

    def test_lost_rings(self):
        for text, expected in ((HEAP.text, ((2, 3),)), ("x=0 | 1>3 2>2 3>1 4>1 7>9 8>7", ((1, 3), (2,))), ("x=1 | 1>2 2>1 3>1", ()),
                               ("x=0 | 5>9 7>5 9>7", ((5, 9, 7),)), ("x=9 | 5>9 7>5 9>7 10>11 11>10", ((10, 11),)), ("x=0 | none", ()),
                               ("x=0 | 1>4 2>3 3>2 4>6 6>1 8>6", ((1, 4, 6), (2, 3)))):
            self.assertEqual(lost_rings(read_store(text)), expected)

    def test_counted_and_swept(self):
        for text, left, clean in ((HEAP.text, "x=1 | 1>0 2>3 3>2", "x=1 | 1>0"), ("x=9 | 1>2 2>3 3>9", "x=9 | none", "x=9 | none"),
                                  ("x=1 | 1>1 2>1 3>2 4>2", "x=1 | 1>1", "x=1 | 1>1"), ("x=0 | 4>4 5>4", "x=0 | 4>4", "x=0 | none"),
                                  ("x=1 y=3 | 1>2 2>0 3>2 4>2", "x=1 y=3 | 1>2 2>0 3>2", "x=1 y=3 | 1>2 2>0 3>2")):
            self.assertEqual((counted(read_store(text)).text, swept(read_store(text)).text), (left, clean))

    def check(self, store, random):
        arrows = dict(store.cells)
        count_down(random, [place for _, place in store.names], arrows)
        self.assertEqual(dict(counted(store).cells), arrows, store.text)
        # Exactly the lost cells that lie on no lost ring are taken away.
        rings = [cell for ring in lost_rings(store) for cell in ring]
        self.assertEqual(set(store.arrows) - set(arrows), set(lost(store)) - set(rings))
        self.assertEqual(swept(store), part_without(store, lost(store)))
        self.assertIs(counted(store) == swept(store), rings == [])
        for kept in (counted(store), swept(store)):
            self.assertEqual((plan_of(kept).shape, plan_of(kept).lengths), (plan_of(store).shape, plan_of(store).lengths))
        self.assertEqual(unasked(store), tuple(cell for cell, _ in store.cells
                                               if arrows_into(store, cell) == 0 and cell not in dict(store.names).values()))
        for ring in lost_rings(store):
            self.assertEqual([store.arrow(cell) for cell in ring], list(ring[1:] + ring[:1]))
            self.assertEqual(min(ring), ring[0])
            self.assertLessEqual(set(ring), set(lost(store)))

    def test_small_stores(self):
        random = Random(431)
        for store in small_stores("x", (1, 2, 3), 4):
            self.check(store, random)

    def test_at_random(self):
        random = Random(432)
        for names in ("x", "xy", "abcd"):
            for store in some_stores(random, names, 500):
                self.check(store, random)

    def test_errors(self):
        for value in odd_values(but=(Store,)):
            self.asks("NotAStore", value, arrows_into, value, None)
            for action in (unasked, lost_rings, counted, swept):
                self.asks("NotAStore", value, action, value)
        for value in list(odd_values()) + [1000, -1, "1"]:
            self.asks("InvalidPlace", value, arrows_into, STORE, value)
        for action in (unasked, lost_rings, counted, swept):
            self.assertIsNotNone(action(store=row_of(500)))


class CountedRunTest(unittest.TestCase, Asking):
    def test_told_runs(self):
        for program, text, most, expected in (
                ("x = next x", HEAP.text, 10, "x=0 | 2>3 3>2"), ("y = x; next y = y; x = END", HEAP.text, 10, "x=0 | 1>1 2>3 3>2"),
                ("none", HEAP.text, 0, "x=1 | 1>0 2>3 3>2"), ("x = END", "x=1 | 1>2 2>0 5>5", 0, "x=1 | 1>2 2>0 5>5"),
                ("x = END", "x=1 | 1>2 2>0 5>5", 1, "x=0 | 5>5"), ("t = x; x = END", "x=1 | 1>2 2>0", 9, "x=0 | none"),
                ("t = x; x = END; x = next t", "x=1 | 1>2 2>0", 9, "x=2 | 2>0"), ("drop x; drop x", "x=1 | 1>2 2>0 3>0", 9, "x=1 | none"),
                # The places of cells that were taken away go to no new cells, but those that were gone only do.
                ("x = END; x = new", "x=1 | 1>0", 9, "x=2 | 2>0"), ("x = new", "x=0 | 1>2 3>4", 9, "x=2 | 2>0"),
                ("x = new; x = new; x = new", "x=0 | 2>4", 9, "x=4 | 4>0"), ("x = new; x = END", "x=0 | none", 9, "x=0 | none"),
                # A ring that is lost stays.
                ("x = new; next x = x; x = END; x = new", "x=0 | none", 9, "x=2 | 1>1 2>0")):
            told = counted_run(program, read_store(text), most)
            self.assertEqual(told.store.text, expected, (program, text))

    def test_a_counted_run_tells_all(self):
        told = counted_run("t = x; x = next x; drop t; y = new; next y = x", read_store("x=1 y=0 | 1>2 2>3 3>0 9>1"), 400)
        self.assertEqual(seen(told), ("done", (("x", 2), ("y", 4)), ((2, 3), (3, 0), (4, 2)), 5, None, (1,), (1, 4), "xy", "xy"))
        # What counting takes away is not written.
        told = counted_run("x = END", row_of(3), 400)
        self.assertEqual(seen(told), ("done", (("x", 0),), (), 1, None, (), (), "", "x"))
        told = counted_run("x = next x; drop x; drop x", row_of(3), 400)
        self.assertEqual(seen(told), ("fault", (("x", 2),), (), 2, 2, (1,), (2,), "x", "x"))
        self.assertEqual((counted_run("while x = x { none }", STORE, 7).word, counted_run("x = x", STORE, 0).word), ("long", "long"))
        self.assertTrue(told == told and told != counted_run("x = next x; drop x; drop x", row_of(3), 400) and told)

    def test_at_random(self):
        random = Random(441)
        words = {}
        for _ in range(600):
            names = random.choice(["x", "xy", "axy"])
            letters = list(names) + ["t"][:random.randint(0, 1)]
            program = some_program(random, letters, random.randint(1, 9), 2)
            if not is_program(program):
                continue
            for store in some_stores(random, names, 3):
                most = random.choice([60, 60, 0, 3, 9])
                told = counted_run(program, store, most)
                walk = CountedWalk(store, program_tree(program), most, random)
                self.assertEqual(seen(told), walk.seen(), (program, store.text, most))
                plain = run(program, store, most)
                self.assertEqual((told.word, told.steps, told.deed), (plain.word, plain.steps, plain.deed))
                self.assertEqual((told.asks, told.sets), (plain.asks, plain.sets))
                self.assertEqual(plan_of(told.store), plan_of(counted(plain.store)), (program, store.text))
                words[told.word] = words.get(told.word, 0) + 1
        self.assertGreater(min(words.values()), 200)

    def test_errors(self):
        for value in NO_PROGRAMS + list(odd_values()):
            self.asks("InvalidProgram", value, counted_run, value, None, None)
        for value in odd_values(but=(Store,)):
            self.asks("NotAStore", value, counted_run, "a = b; c = d", value, None)
        for value in list(odd_values(but=(0, 1))) + [401, -1]:
            self.asks("InvalidNumber", value, counted_run, "a = b; c = d", STORE, value)
        self.asks("TooMany", 5, counted_run, "a = b; c = d", row_of(101), 400)
        self.asks("TooMany", 101, counted_run, "a = b", row_of(101), 400)
        # It is the store that was passed whose cells are counted.
        self.asks("TooMany", 101, counted_run, "none", Store((("x", 0),), row_of(101).cells), 400)
        self.assertEqual(counted_run(most=0, store=row_of(100), program="a = b").word, "long")


if __name__ == "__main__":
    unittest.main()
