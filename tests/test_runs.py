"""Runs on stores, single deeds and tests ([9], [24], [25])."""

import unittest
from random import Random

from arrowcells.plans import plan_of
from arrowcells.programs import has_loop, is_program, program_tree
from arrowcells.runs import Run, done, holds, run
from arrowcells.stores import Store, read_store
from tests.chosen import some_program, some_test
from tests.helpers import STORE, Asking, odd_values, some_stores
from tests.naive import Walk, is_so
from tests.test_programs import NO_PROGRAMS, NO_TESTS

ROW = read_store("x=1 y=0 | 1>2 2>3 3>0")
TURN = "while x != END { t = next x; next x = y; y = x; x = t }"


def row_of(many):
    """A store whose cells are a list of so many from x."""
    return Store((("x", 1 if many else 0),), tuple((cell, cell + 1 if cell < many else 0) for cell in range(1, many + 1)))


def seen(told):
    """What a Run tells."""
    return (told.word, told.store.names, told.store.cells, told.steps, told.deed, told.reads, told.writes, told.asks, told.sets)


class DoneTest(unittest.TestCase, Asking):
    def told(self, text, *deed):
        return done(read_store(text), deed).text

    def test_copy(self):
        self.assertEqual(self.told("x=1 y=5 | 1>2", "copy", "x", "y"), "x=5 y=5 | 1>2")
        self.assertEqual(self.told("x=1 y=5 | 1>2", "copy", "y", "END"), "x=1 y=0 | 1>2")
        self.assertEqual(self.told("x=1 y=5 | 1>2", "copy", "x", "x"), "x=1 y=5 | 1>2")

    def test_next(self):
        self.assertEqual(self.told("x=1 y=5 | 1>2", "next", "y", "x"), "x=1 y=2 | 1>2")
        self.assertEqual(self.told("x=1 y=5 | 1>1", "next", "x", "x"), "x=1 y=5 | 1>1")
        self.asks("Failed", ("next", "x", "y"), done, read_store("x=1 y=5 | 1>2"), ("next", "x", "y"))
        self.asks("Failed", ("next", "x", "y"), done, read_store("x=1 y=0 | 1>2"), ("next", "x", "y"))

    def test_tie(self):
        self.assertEqual(self.told("x=1 y=5 | 1>2", "tie", "x", "y"), "x=1 y=5 | 1>5")
        self.assertEqual(self.told("x=1 y=5 | 1>2", "tie", "x", "END"), "x=1 y=5 | 1>0")
        self.assertEqual(self.told("x=1 y=5 | 1>2", "tie", "x", "x"), "x=1 y=5 | 1>1")
        self.asks("Failed", ("tie", "y", "x"), done, read_store("x=1 y=5 | 1>2"), ("tie", "y", "x"))
        self.asks("Failed", ("tie", "y", "END"), done, read_store("x=1 y=0 | 1>2"), ("tie", "y", "END"))

    def test_drop(self):
        self.assertEqual(self.told("x=1 y=1 | 1>2 2>1", "drop", "x"), "x=1 y=1 | 2>1")
        self.asks("Failed", ("drop", "y"), done, read_store("x=1 y=5 | 1>2"), ("drop", "y"))
        self.asks("Failed", ("drop", "y"), done, read_store("x=1 y=0 | 1>2"), ("drop", "y"))

    def test_new(self):
        self.assertEqual(self.told("x=0 | none", "new", "x"), "x=1 | 1>0")
        # No cell, and nothing leads there: not even a name that leads elsewhere behind the deed.
        self.assertEqual(self.told("x=1 y=3 | 2>4 5>6", "new", "x"), "x=7 y=3 | 2>4 5>6 7>0")
        self.assertEqual(self.told("x=2 y=2 | 4>4", "new", "y"), "x=2 y=1 | 1>0 4>4")
        self.assertEqual(self.told("x=999 | 999>998", "new", "x"), "x=1 | 1>0 999>998")

    def test_errors(self):
        for value in odd_values(but=(Store,)):
            self.asks("NotAStore", value, done, value, None)
        for value in list(odd_values()) + [("copy", "x"), ("next", "x", "END"), ["drop", "x"], "drop x"]:
            self.asks("InvalidDeed", value, done, STORE, value)
        big = row_of(101)
        self.asks("UnknownName", "a", done, big, ("copy", "z", "a"))
        self.asks("UnknownName", "z", done, big, ("tie", "x", "z"))
        self.asks("UnknownName", "y", done, big, ("new", "y"))
        self.asks("UnknownName", "y", done, big, ("drop", "y"))
        self.asks("TooMany", 101, done, big, ("copy", "x", "x"))
        self.asks("TooMany", 101, done, Store((("x", 0),), big.cells), ("drop", "x"))
        self.assertEqual(len(done(row_of(100), ("new", "x")).cells), 101)
        self.assertEqual(done(deed=("drop", "x"), store=STORE).text, "x=1 | none")


class HoldsTest(unittest.TestCase, Asking):
    def test_told_tests(self):
        store = read_store("a=0 b=3 c=3 d=7 | 3>0")
        for test, expected in (("a = END", True), ("b = END", False), ("b = c", True), ("b != c", False), ("d != END", True),
                               ("b = d", False), ("a = END and b = c and d = d", True), ("a = END and b = d", False),
                               ("a != END or b = d or c != b", False), ("a != END or b = d or c = b", True), ("a != a", False)):
            self.assertIs(holds(test, store), expected, test)
        self.assertIs(holds(store=store, test="a = END"), True)

    def test_tests_at_random(self):
        random = Random(33)
        for store in some_stores(random, "abx", 200):
            test = some_test(random, list("abx"))
            tree = program_tree(f"while {test} {{ none }}")[0][1]
            self.assertIs(holds(test, store), is_so(dict(store.names), tree))

    def test_errors(self):
        for value in NO_TESTS + list(odd_values()):
            self.asks("InvalidTest", value, holds, value, None)
        for value in odd_values(but=(Store,)):
            self.asks("NotAStore", value, holds, "a = b", value)
        self.asks("UnknownName", "b", holds, "z = x or x = b or x = c", STORE)
        self.asks("UnknownName", "y", holds, "x = END or x = y", STORE)
        self.assertIs(holds("x = x", row_of(400)), True)


class RunTest(unittest.TestCase, Asking):
    def test_a_run_tells_all(self):
        told = run(TURN, ROW, 400)
        self.assertIsInstance(told, Run)
        self.assertEqual(seen(told), ("done", (("x", 0), ("y", 3)), ((1, 0), (2, 1), (3, 2)), 16, None, (1, 2, 3), (1, 2, 3),
                                      "xy", "xy"))
        self.assertTrue(told == told and not told != told and told)
        self.assertFalse(told == run(TURN, ROW, 400) or told == 1)
        self.assertTrue(told != run(TURN, ROW, 400))

    def test_steps_that_are_let(self):
        for most in range(16):
            told = run(TURN, ROW, most)
            self.assertEqual((told.word, told.steps, told.deed), ("long", most, None))
        self.assertEqual(run(TURN, ROW, 16).word, "done")
        self.assertEqual(run("none", ROW, 0).word, "done")
        self.assertEqual(run("drop x", ROW, 1).word, "done")
        self.assertEqual(run("if x = y { drop x }", ROW, 1).word, "done")
        self.assertEqual(run("if x = y { none } else { drop x }", ROW, 1).word, "long")
        self.assertEqual(run("while x = y { drop x }", ROW, 1).word, "done")
        self.assertEqual(seen(run("while x = x { none }", STORE, 400))[:5], ("long", (("x", 1),), ((1, 0),), 400, None))
        self.assertEqual(run("while x = x { y = x; x = new }", ROW, 7).steps, 7)

    def test_a_deed_behind_the_last_step_is_not_tried(self):
        told = run("drop x; drop x", ROW, 1)
        self.assertEqual((told.word, told.steps, told.deed, told.writes), ("long", 1, None, (1,)))
        told = run("drop x; drop x", ROW, 2)
        self.assertEqual((told.word, told.steps, told.deed, told.writes), ("fault", 1, 1, (1,)))
        self.assertEqual(run("drop y", ROW, 0).word, "long")

    def test_a_fault_changes_nothing(self):
        told = run("x = next x; drop x; if x != END { y = x; z = next y; x = END }; drop x", ROW, 400)
        self.assertEqual(seen(told), ("fault", (("x", 2), ("y", 2)), ((1, 2), (3, 0)), 4, 3, (1,), (2,), "x", "xy"))
        self.assertEqual(run("if x = y { drop x; drop x } else { none }; drop y", ROW, 9).deed, 2)
        self.assertEqual(run("if x = y { drop x; drop x } else { x = x; drop y }; drop y", ROW, 9).deed, 3)
        self.assertEqual(run("while x != END { x = next x; if x = END { drop x } }", ROW, 50).deed, 1)

    def test_helpers(self):
        told = run("t = x; while t != END { t = next t; y = t }; u = new", ROW, 400)
        self.assertEqual(seen(told), ("done", (("x", 1), ("y", 0)), ((1, 2), (2, 3), (3, 0), (4, 0)), 12, None, (1, 2, 3), (4,),
                                      "x", "y"))
        self.assertEqual(run("x = t", ROW, 9).store.text, "x=0 y=0 | 1>2 2>3 3>0")
        self.assertEqual((run("drop t", ROW, 9).word, run("next t = x", ROW, 9).word), ("fault", "fault"))
        self.assertEqual(run("t = x; x = END; t = next t", ROW, 2).store.letters, "xy")

    def test_what_is_asked_and_set(self):
        for program, asks, sets in (("x = y", "y", "x"), ("x = END", "", "x"), ("y = next x", "x", "y"), ("next x = y", "xy", ""),
                                    ("next x = END", "x", ""), ("x = new", "", "x"), ("drop x", "x", ""), ("x = t", "", "x"),
                                    ("t = x", "x", ""), ("if x = END and t = y { none }", "xy", ""), ("drop y", "", ""),
                                    ("next y = x", "", ""), ("x = next y", "", ""), ("none", "", ""),
                                    ("if x = t { x = y }", "x", ""), ("while t = END { t = x; next t = y }", "xy", "")):
            told = run(program, ROW, 400)
            self.assertEqual((told.asks, told.sets), (asks, sets), program)

    def test_what_is_read_and_written(self):
        for program, reads, writes in (("x = y", (), ()), ("x = next x; x = next x", (1, 2), ()), ("next x = y", (), (1,)),
                                       ("t = new", (), (4,)), ("x = next x; drop x", (1,), (2,)), ("drop y", (), ()),
                                       ("t = new; drop t; t = new", (), (4, 5)), ("t = next x; t = next x", (1,), ()),
                                       ("t = new; next x = t; t = next t", (4,), (1, 4)), ("if x = y { drop x }", (), ())):
            told = run(program, ROW, 400)
            self.assertEqual((told.reads, told.writes), (reads, writes), program)

    def test_the_place_of_a_new_cell(self):
        def cells(program, text):
            return run(program, read_store(text), 400).store.text
        # Not where a helper leads, not where an arrow leads, and nowhere where a cell has been in this run.
        self.assertEqual(cells("t = x; x = END; x = new", "x=1 | 2>0"), "x=3 | 2>0 3>0")
        self.assertEqual(cells("x = END; x = new", "x=1 | 2>0"), "x=1 | 1>0 2>0")
        self.assertEqual(cells("drop x; x = END; x = new", "x=1 | 1>0"), "x=2 | 2>0")
        self.assertEqual(cells("x = new; drop x; x = new; drop x; x = new", "x=0 | none"), "x=3 | 3>0")
        self.assertEqual(cells("x = new; x = new", "x=0 | none"), "x=2 | 1>0 2>0")
        self.assertEqual(cells("next x = END; x = new", "x=2 | 2>1"), "x=1 | 1>0 2>0")
        self.assertEqual(cells("x = new", "x=2 | 2>1"), "x=3 | 2>1 3>0")
        self.assertEqual(run("while x = x { x = new }", row_of(100), 400).store.at("x"), 300)

    def test_the_greatest_runs(self):
        told = run("while x = x { y = x; y = new }", row_of(100), 400)
        self.assertEqual((told.word, told.steps, len(told.store.cells), told.writes[-1]), ("long", 400, 233, 233))
        long = run("while x = x { " + "; ".join(["x = new"] * 29) + " }", row_of(100), 400)
        self.assertEqual(len(long.store.cells), 100 + 400 - 14)

    def test_runs_at_random(self):
        random = Random(34)
        words = {}
        for _ in range(800):
            names = random.choice(["x", "xy", "axy", "bcxy"])
            letters = list(names) + [letter for letter in "tuab" if letter not in names][:random.randint(0, 4 - len(names))]
            text = some_program(random, letters, random.randint(0, 12))
            if is_program(text):
                tree = program_tree(text)
                for store in some_stores(random, names, 5):
                    most = random.choice([400, 400, 0, 1, 5, 17])
                    told = run(text, store, most)
                    self.assertEqual(seen(told), Walk(store.names, store.cells, tree, most).seen(), (text, store.text, most))
                    words[told.word] = words.get(told.word, 0) + 1
                    if not has_loop(text) and most == 400:
                        self.assertLessEqual(told.steps, 30)
        self.assertGreater(min(words.values()), 300)

    def test_errors(self):
        big = Store((("w", 0), ("x", 0), ("y", 0), ("z", 0)), row_of(101).cells)
        for value in NO_PROGRAMS + list(odd_values()):
            self.asks("InvalidProgram", value, run, value, None, None)
        for value in odd_values(but=(Store,)):
            self.asks("NotAStore", value, run, "t = u", value, None)
        for value in list(odd_values(but=(0,))) + [401, -1, "5"]:
            self.asks("InvalidNumber", value, run, "t = u", big, value)
        self.asks("TooMany", 6, run, "t = u", big, 0)
        self.asks("TooMany", 5, run, "t = x", big, 400)
        self.asks("TooMany", 101, run, "w = x", big, 400)
        self.asks("TooMany", 5, run, "a = b; c = d", STORE, 1)
        self.assertEqual(run("a = b; c = x", STORE, 400).word, "done")
        self.assertEqual(run("w = x", row_of(100), 400).word, "done")
        self.assertEqual(run(store=STORE, most=1, program="drop x").store.text, "x=1 | none")

    def test_nothing_is_changed(self):
        store = read_store("x=1 | 1>2 2>0")
        run("drop x", store, 1)
        done(store, ("new", "x"))
        self.assertEqual((store.text, store.names, plan_of(store).text), ("x=1 | 1>2 2>0", (("x", 1),), "x>1 -. | 2 | 0"))


if __name__ == "__main__":
    unittest.main()
