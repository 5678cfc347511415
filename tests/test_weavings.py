"""Two programs side by side ([41], [42])."""

import unittest
from random import Random

from arrowcells.plans import plan_of
from arrowcells.programs import is_program, program_letters, program_tree, statements_number
from arrowcells.runs import run
from arrowcells.stores import Store, read_store
from arrowcells.weavings import touching, weaving_to, weavings, woven
from tests.chosen import some_straight
from tests.helpers import STORE, Asking, odd_values, raised, some_stores
from tests.naive import Fault, Walk, is_so, letters_of
from tests.test_programs import NO_PROGRAMS
from tests.test_runs import row_of

ONE = read_store("x=1 | 1>0")
ROW = read_store("x=1 y=0 | 1>2 2>3 3>0")
WRONG_ORDERS = [((2,), 0), ((0, -1), 1), ((True,), 0), ((0, 1, False), 2), ((None,), 0), ((1, "0"), 1), (((0,),), 0), ((0, []), 1),
                ((10 ** 40,), 0), ((0,) * 101, 100), ((0,) * 100 + (5,), 100), ((0,) * 99 + (7, 3), 99), ((1,) * 4000, 100)]


class Side(Walk):
    """A walk whose steps are done one by one, on a heap that it shares with another walk."""

    def __init__(self, tree, shared):
        self.at, self.arrows, self.been, self.made = shared
        self.steps, self.most = 0, 10 ** 9
        self.reads, self.writes, self.asks, self.sets = set(), set(), set(), set()
        self.rest = self.through(tree)

    def through(self, tree):
        for statement in tree:
            if statement[0] == "if":
                yield
                yield from self.through(statement[2] if is_so(self.at, statement[1]) else statement[3])
            else:
                yield
                self.step(statement, 0)


class Naive:
    """A weaving, done step by step in the plainest way."""

    def __init__(self, program, other, store, order):
        trees = [program_tree(program), program_tree(other)]
        helpers = {letter: 0 for tree in trees for letter in letters_of(tree)}
        shared = {**helpers, **dict(store.names)}, dict(store.cells), set(dict(store.cells)), set()
        self.sides = [Side(tree, shared) for tree in trees]
        # A step is done when its walk is asked for the next one, so that each one waits before its first step.
        self.waits = [next(side.rest, "done") for side in self.sides]
        self.has_failed = False
        self.used = [self.go_on(which) for which in order]
        self.names = tuple((letter, shared[0][letter]) for letter, _ in store.names)
        self.cells = tuple(sorted(shared[1].items()))

    def go_on(self, which):
        """Does a step, and tells whether there was one."""
        if self.has_failed or self.waits[which] == "done":
            return False
        try:
            self.waits[which] = next(self.sides[which].rest, "done")
        except Fault:
            self.has_failed = True
        return True

    def is_over(self):
        return self.has_failed or self.waits == ["done", "done"]

    def end(self):
        return "fault" if self.has_failed else plan_of(Store(self.names, self.cells)).text


def all_ends(program, other, store, order=()):
    """All pairs of an order that tells each step of a weaving, and its end."""
    naive = Naive(program, other, store, order)
    if not all(naive.used):
        return
    if naive.is_over():
        yield order, naive.end()
        return
    for which in (0, 1):
        yield from all_ends(program, other, store, order + (which,))


def some_pair(random, names):
    """Two programs with their own helpers, of a few statements."""
    while True:
        first = some_straight(random, names, 3)
        # The helpers of the second program are other letters.
        letters = [letter for letter in "abtu" if letter not in names and letter not in program_letters(first)]
        second = some_straight(random, names, 3)
        for old, new in zip([letter for letter in program_letters(second) if letter not in names], letters + ["?"] * 9):
            second = " ".join(word.replace(old, new) if word.strip(";") == old else word for word in second.split(" "))
        if is_program(second) and len(set(names + program_letters(first) + program_letters(second))) <= 4:
            if statements_number(first) + statements_number(second) <= 8:
                return first, second


class WeavingsTest(unittest.TestCase, Asking):
    def test_told_weavings(self):
        self.assertEqual(weavings("next x = x", "next x = END", ONE), ("x>0 | 1 | 0", "x>1 -. | 1 | 0"))
        self.assertEqual(weavings("drop x", "y = next x", ONE), ("fault", "x! | none | 0"))
        self.assertEqual(weavings("x = END", "x = END", ONE), ("x. | none | 1",))
        self.assertEqual(weavings("none", "none", ONE), ("x>1 -. | 1 | 0",))
        self.assertEqual(weavings("drop x", "drop x", ONE), ("fault",))
        self.assertEqual(weavings("drop x", "if x = END { drop x }", ONE), ("x! | none | 0",))
        # A test is a step by itself: what it told may have changed when the deed is done.
        self.assertEqual(weavings("if x != END { drop x }", "x = END", ONE), ("fault", "x. | none | 0", "x. | none | 1"))
        self.assertEqual(weavings("t = next x; x = t", "u = next x; x = u", ROW), ("x>1 y. | 1 | 2", "x>1 y. | 2 | 1"))
        # A cell that was dropped gives its place to no new cell, though nothing leads there.
        self.assertEqual(weavings("drop x; x = END", "y = new; next y = y", ROW), ("x. y>1 | 1 | 2",))
        self.assertEqual(weavings(other="y = x", store=ROW, program="x = y"), ("xy. | none | 3", "xy>1 -. | 3 | 0"))

    def test_woven(self):
        for order, expected in (((0, 0, 0), "x>1 -. | 1 | 0"), ((1,), "x>0 | 1 | 0"), ((), "x>1 -. | 1 | 0"), ((0,), "x>1 -. | 1 | 0"),
                                ((1, 1, 1, 0), "x>0 | 1 | 0"), ((1, 0) * 50, "x>0 | 1 | 0"), ((0, 1), "x>1 -. | 1 | 0")):
            self.assertEqual(woven("next x = x", "next x = END", ONE, order), expected)
        # Nothing is done any more behind a step that fails.
        self.assertEqual(woven("drop x", "y = next x", ONE, (0, 1, 0, 0, 1)), "fault")
        self.assertEqual(woven("drop x", "y = next x", ONE, (1,)), "x! | none | 0")
        self.assertEqual(woven(order=(), store=ONE, other="drop x; x = new", program="x = x"), "x>1 -. | 1 | 0")
        # Each step sees what all steps before it have left; the tests, too.
        race = "if y = END { y = x }", "y = new"
        self.assertEqual([woven(*race, ROW, order) for order in ((0, 0), (0, 1), (1, 0))],
                         ["x>1 -. y>1 | 3 1 | 0", "xy>1 -. | 3 | 1", "x>1 -. y>1 | 3 1 | 0"])

    def test_weaving_to(self):
        for program, other, store, end, expected in (
                ("next x = x", "next x = END", ONE, "x>0 | 1 | 0", (1, 0)), ("next x = x", "next x = END", ONE, "x>1 -. | 1 | 0", (0, 1)),
                ("drop x", "y = next x", ONE, "fault", (0, 1)), ("drop x", "y = next x", ONE, "none", None), ("drop x", "y = next x", ONE, "", None),
                ("drop x", "y = next x", ONE, "x! | none | 0", (1, 0)), ("none", "none", ONE, ONE.text, None),
                ("none", "none", ONE, "x>1 -. | 1 | 0", ()), ("none", "drop x; drop x; drop x", ONE, "fault", (1, 1)),
                ("x = x; x = x", "x = x", ONE, "x>1 -. | 1 | 0", (0, 0, 1)), ("if x = x { x = END }", "drop x", ONE, "fault", (0, 0, 1)),
                ("if x = x { x = END }", "drop x", ONE, "x. | none | 0", (0, 1, 0))):
            self.assertEqual(weaving_to(program, other, store, end), expected, (program, other, end))
        self.assertEqual(weaving_to(end="fault", store=ONE, other="none", program="drop x; drop x"), (0, 0))

    def test_all_weavings(self):
        random = Random(411)
        most = 0
        for _ in range(350):
            names = random.choice(["x", "xy"])
            program, other = some_pair(random, names)
            for store in some_stores(random, names, 2):
                told = list(all_ends(program, other, store))
                self.assertEqual(weavings(program, other, store), tuple(sorted({end for _, end in told})), (program, other, store.text))
                for end in {end for _, end in told}:
                    self.assertEqual(weaving_to(program, other, store, end), min(order for order, one in told if one == end))
                for order, end in random.sample(told, min(len(told), 4)):
                    self.assertEqual(woven(program, other, store, order), end)
                most = max(most, len({end for _, end in told}))
                for _ in range(3):
                    order = tuple(random.randint(0, 1) for _ in range(random.randint(0, 12)))
                    naive = Naive(program, other, store, order + (0,) * 20 + (1,) * 20)
                    self.assertEqual(woven(program, other, store, order), naive.end(), (program, other, store.text, order))
        self.assertGreater(most, 2)

    def test_ten_statements(self):
        five = "; ".join(["x = x"] * 5)
        self.assertEqual(weavings(five, five, ONE), ("x>1 -. | 1 | 0",))
        self.assertEqual(weaving_to(five, five, ONE, "x>1 -. | 1 | 0"), (0,) * 5 + (1,) * 5)
        first, second = "x = next x; x = next x; x = next x; y = x; x = new", "y = next x; next y = x; x = y; y = x; drop y"
        told = list(all_ends(first, second, ROW))
        self.assertGreater(len({order for order, _ in told if len(order) == 10}), 100)
        self.assertEqual(weavings(first, second, ROW), tuple(sorted({end for _, end in told})))

    def test_errors(self):
        actions = ((weavings, ()), (woven, ((),)), (weaving_to, ("fault",)), (touching, ()))
        for action, more in actions:
            for value in NO_PROGRAMS + list(odd_values()):
                self.asks("InvalidProgram", value, action, value, None, None, *more)
                self.asks("InvalidProgram", value, action, "a = b; c = d", value, None, *more)
            self.tells("HasLoop", {}, action, "while x = y { none }", "?", None, *more)
            self.tells("HasLoop", {}, action, "a = b; c = d", "while x = y { none }", None, *more)
            for value in odd_values(but=(Store,)):
                self.asks("NotAStore", value, action, "a = b; c = d", "a = b; c = d", value, *more)
            big = row_of(101)
            self.asks("Shared", "b", action, "d = b; x = c", "c = b; x = e", big, *more)
            self.asks("Shared", "t", action, "t = x", "t = x", STORE, *more)
            eleven = "; ".join(["a = b"] * 6), "; ".join(["c = d"] * 5)
            self.asks("TooMany", 5, action, *eleven, big, *more)
            self.asks("TooMany", 5, action, "a = b", "c = d", STORE, *more)
            six = "; ".join(["x = a"] * 6)
            self.asks("TooMany", 11, action, six, "if b = x { x = b } else { if x = END { x = b; drop x } }", big, *more)
            self.asks("TooMany", 101, action, six, "; ".join(["c = d"] * 4), big, *more)
            # The names of the store belong to both programs.
            self.assertIsNone(raised(action, "x = a", "b = x; c = b", row_of(100), *more))

    def test_errors_of_orders_and_ends(self):
        for value in odd_values(but=(tuple,)):
            self.points("InvalidTurns", None, woven, "t = x", "t = x", STORE, value)
        for value, index in WRONG_ORDERS:
            self.points("InvalidTurns", index, woven, "t = x", "t = x", STORE, value)
        self.assertEqual(woven("x = x", "x = x", STORE, (0, 1) * 50), "x>1 -. | 1 | 0")
        for value in odd_values(but=(str,)):
            self.asks("InvalidText", value, weaving_to, "t = x", "t = x", STORE, value)
        for value in ("?", "", "x! | none | 0"):
            self.assertIsNone(weaving_to("t = x", "u = x", STORE, value))


class TouchingTest(unittest.TestCase):
    def test_told_pairs(self):
        for program, other, store, expected in (
                ("x = END", "x = END", ONE, True), ("y = new; next y = x", "z = new; drop z", ONE, False), ("none", "drop x", ONE, False),
                ("t = x", "u = x", ONE, False), ("t = x", "x = END", ONE, True), ("t = next x", "u = next x", ONE, False),
                ("t = next x", "u = x; next u = u", ONE, True), ("drop x", "u = x; u = next u", ONE, True), ("if x = y { none }", "y = x", ROW, True),
                ("if x = END { none }", "y = END", ROW, False), ("if x = END { x = y }", "y = END", ROW, False), ("y = x", "x = y", ROW, True),
                ("t = next x; next t = END", "y = next x", ROW, False), ("t = next x; t = next t; drop t", "y = next x", ROW, False),
                ("t = next x; drop t", "u = next x; y = next u", ROW, True), ("t = new; drop t", "u = new; drop u", ROW, False),
                # Up to a fault: what the failing deed would ask counts, what it would set does not.
                ("x = next y", "y = END", ROW, True), ("drop y", "y = END", ROW, True), ("next y = x", "x = END", ROW, True),
                ("x = next y", "t = x", ROW, False), ("drop y; x = END", "t = x", ROW, False), ("t = next y; x = END", "y = x", ROW, True),
                ("next y = END", "y = y", ROW, True), ("next t = x", "x = END", ROW, True), ("next t = END", "x = END", ROW, False),
                # A place that is new in one run is no cell of the store.
                ("t = new; next t = t", "u = new; next u = u", ROW, False)):
            self.assertIs(touching(program, other, store), expected, (program, other))
            self.assertIs(touching(other, program, store), expected, (program, other))
        self.assertIs(touching(store=ONE, other="none", program="none"), False)

    def test_programs_that_do_not_touch(self):
        # [42]: all weavings have the same end then.
        random = Random(421)
        many = {True: 0, False: 0}
        for _ in range(500):
            names = random.choice(["xy", "xy", "x", "wxyz"])
            program, other = some_pair(random, names)
            for store in some_stores(random, names, 2):
                told = touching(program, other, store)
                self.assertIs(told, self.naively(program, other, store), (program, other, store.text))
                many[told] += 1
                if not told:
                    first, second = run(program, store, 400), run(other, store, 400)
                    behind = run(other, first.store, 400)
                    expected = "fault" if "fault" in (first.word, second.word) else plan_of(behind.store).text
                    self.assertEqual(weavings(program, other, store), (expected,), (program, other, store.text))
        self.assertGreater(min(many.values()), 150)

    def naively(self, program, other, store):
        """Whether two programs touch, as [42] tells it."""
        walks = []
        for text in (program, other):
            tree = program_tree(text)
            walk = Walk(store.names, store.cells, tree, 400)
            if walk.word == "fault":
                deed = [one for one in self.deeds(tree)][walk.deed]
                walk.asks |= set(deed[1:] if deed[0] in ("tie", "drop") else deed[2:]) - {"END"}
            walks.append(walk)
        cells, names = set(dict(store.cells)), set(dict(store.names))
        for walk, rival in (walks, walks[::-1]):
            if walk.writes & cells & (rival.reads | rival.writes) or walk.sets & names & (rival.asks | rival.sets):
                return True
        return False

    def deeds(self, tree):
        for one in tree:
            if one[0] == "if":
                yield from self.deeds(one[2])
                yield from self.deeds(one[3])
            else:
                yield one


if __name__ == "__main__":
    unittest.main()
