"""Benches: wishes, undoing and trials ([47])."""

import unittest
from random import Random

from arrowcells import errors
from arrowcells.benches import Bench
from arrowcells.fits import keeps
from arrowcells.programs import program_text
from arrowcells.runs import done, run
from arrowcells.stores import Store, read_store
from tests.chosen import some_deed, some_sayings, some_straight
from tests.helpers import STORE, Asking, odd_values, raised, some_stores
from tests.test_programs import NO_PROGRAMS
from tests.test_runs import row_of
from tests.test_sayings import BAD

ROW = read_store("x=1 y=0 | 1>2 2>0")


def state(bench):
    """All that is told of a bench."""
    return bench.start, bench.now, bench.wishes, bench.log, len(bench)


class Stop(BaseException):
    """An exception that is no Exception."""


class Plain:
    """A bench as a plain list of the states so far: pairs of a store and the wishes, and the lines."""

    def __init__(self, store):
        self.states = [(store, ())]
        self.lines = []

    def state(self):
        store, wishes = self.states[-1]
        return self.states[0][0], store, wishes, tuple(self.lines), len(self.lines)

    def add(self, store, wishes, line):
        self.states.append((store, wishes))
        self.lines.append(line)

    def change(self, store, line):
        """Takes a store behind a change; the index of the first wish that does not hold, if there is one."""
        wishes = self.states[-1][1]
        for index, saying in enumerate(wishes):
            if not keeps(store, saying):
                return "Broken", {"index": index}
        return self.add(store, wishes, line)

    def do(self, deed):
        store = self.states[-1][0]
        return raised(done, store, deed) or self.change(done(store, deed), f"do {program_text((deed,))}")

    def run(self, program):
        told = run(program, self.states[-1][0], 400)
        return ("Failed", {"given": told.deed}) if told.word == "fault" else self.change(told.store, f"run {program}")

    def wish(self, saying):
        store, wishes = self.states[-1]
        if not keeps(store, saying):
            return "Broken", {"index": len(wishes)}
        return self.add(store, wishes + (saying,), f"wish {saying}")

    def lift(self, index):
        store, wishes = self.states[-1]
        if index >= len(wishes):
            return "InvalidIndex", {"given": index}
        return self.add(store, wishes[:index] + wishes[index + 1:], f"lift {index}")

    def undo(self):
        if not self.lines:
            return "NothingToUndo", {}
        self.states.pop()
        return self.lines.pop() and None


def some_change(random, names):
    """The name of a method and its argument, if it has one."""
    word = random.choice(["do", "do", "do", "run", "run", "wish", "wish", "lift", "undo", "undo"])
    if word == "do":
        words = some_deed(random, list(names)).split(" ")
        deed = {"drop": ("drop", words[1]), "next": ("tie", words[1], words[-1])}.get(words[0])
        if deed is None:
            deed = ("new", words[0]) if words[-1] == "new" else ("next" if len(words) == 4 else "copy", words[0], words[-1])
        return word, (deed,)
    if word == "run":
        return word, (some_straight(random, names, 4),)
    if word == "wish":
        easy = [f"{names[0]} != END * rest", "lost 0 1 2 * rest", "rest", "not ( gone x * rest )", "chain x END 0+ * rest"]
        return word, (random.choice(easy + [next(some_sayings(random, names, 9))]),)
    return word, (random.randint(0, 2),) if word == "lift" else ()


class BenchTest(unittest.TestCase, Asking):
    def test_a_new_bench(self):
        bench = Bench(store=ROW)
        self.assertEqual(state(bench), (ROW, ROW, (), (), 0))
        self.assertTrue(bench and bool(bench) is True and bench == bench and not bench != bench)
        self.assertFalse(bench == Bench(ROW) or bench == 1 or bench == ROW)
        self.assertTrue(bench != Bench(ROW))
        for value in odd_values(but=(Store,)):
            self.asks("NotAStore", value, Bench, value)

    def test_changes(self):
        bench = Bench(ROW)
        self.assertIsNone(bench.wish("lost 0 * rest"))
        self.assertIsNone(bench.do(("next", "y", "x")))
        self.assertIsNone(bench.do(deed=("tie", "x", "END")))
        self.assertIsNone(bench.run("next y = x; x = y"))
        self.assertEqual((bench.now.text, len(bench)), ("x=2 y=2 | 1>0 2>1", 4))
        self.assertEqual(bench.log, ("wish lost 0 * rest", "do y = next x", "do next x = END", "run next y = x; x = y"))
        self.assertIsNone(bench.undo())
        self.assertEqual((bench.now.text, len(bench), bench.log[-1]), ("x=1 y=2 | 1>0 2>0", 3, "do next x = END"))
        self.assertIsNone(bench.lift(0))
        self.assertIsNone(bench.do(("drop", "x")))
        self.assertIsNone(bench.do(("new", "x")))
        self.assertIsNone(bench.do(("copy", "y", "END")))
        self.assertEqual((bench.now.text, bench.wishes), ("x=3 y=0 | 2>0 3>0", ()))
        self.assertEqual(bench.log[3:], ("lift 0", "do drop x", "do x = new", "do y = END"))
        self.assertEqual(bench.start, ROW)

    def test_each_change_is_a_run_by_itself(self):
        bench = Bench(read_store("x=1 | 1>0"))
        bench.run("drop x; x = END")
        bench.do(("new", "x"))
        self.assertEqual(bench.now.text, "x=1 | 1>0")
        bench = Bench(read_store("x=1 | 1>0"))
        bench.run("drop x; x = new")
        self.assertEqual(bench.now.text, "x=2 | 2>0")
        # Helpers are left out behind each program.
        bench.run("t = x")
        self.assertEqual((bench.now.letters, bench.log[-1]), ("x", "run t = x"))

    def test_texts_in_the_log(self):
        bench = Bench(ROW)
        for deed, line in ((("copy", "x", "y"), "do x = y"), (("copy", "x", "END"), "do x = END"), (("new", "x"), "do x = new"),
                           (("tie", "x", "y"), "do next x = y"), (("tie", "x", "END"), "do next x = END"), (("next", "y", "x"), "do y = next x"),
                           (("drop", "x"), "do drop x")):
            bench.do(deed)
            self.assertEqual(bench.log[-1], line)
        bench.run("if x = y { none } else { none }")
        self.assertEqual(bench.log[-1], "run if x = y { none } else { none }")
        bench.run("none")
        self.assertEqual((bench.log[-1], len(bench)), ("run none", 9))

    def test_undoing_leads_store_and_wishes_back(self):
        bench = Bench(ROW)
        states = [state(bench)]
        for word, given in (("wish", "x != END * rest"), ("do", ("next", "y", "x")), ("wish", "x != y * rest"), ("lift", 0), ("run", "x = END"),
                            ("wish", "x = END * rest"), ("lift", 0), ("do", ("copy", "y", "x"))):
            getattr(bench, word)(given)
            states.append(state(bench))
        for expected in states[-2::-1]:
            bench.undo()
            self.assertEqual(state(bench), expected)
        self.tells("NothingToUndo", {}, bench.undo)

    def test_wishes(self):
        bench = Bench(ROW)
        bench.wish(saying="chain x END 0+ * rest")
        bench.wish("lost 0 * rest")
        before = state(bench)
        for action, given, index in ((bench.do, ("tie", "x", "x"), 0), (bench.do, ("copy", "x", "END"), 1), (bench.do, ("drop", "x"), 0),
                                     (bench.run, "x = END", 1), (bench.run, "next x = x; x = END", 1), (bench.wish, "x = END * rest", 2),
                                     (bench.wish, "not ( rest )", 2)):
            self.points("Broken", index, action, given)
            self.assertEqual(state(bench), before)
        # What does not hold within a program alone does not matter.
        bench.run("t = next x; next x = x; next x = t")
        bench.lift(index=0)
        self.assertEqual(bench.wishes, ("lost 0 * rest",))
        self.points("Broken", 0, bench.do, ("copy", "x", "END"))
        bench.lift(0)
        bench.do(("copy", "x", "END"))
        bench.wish("lost 2 * rest")
        bench.wish("lost 2 * rest")
        self.assertEqual(bench.wishes, ("lost 2 * rest", "lost 2 * rest"))

    def test_errors_change_nothing(self):
        bench = Bench(ROW)
        bench.wish("lost 0 1 * rest")
        bench.do(("next", "y", "x"))
        before = state(bench)
        for value in odd_values():
            self.asks("InvalidDeed", value, bench.do, value)
        self.asks("UnknownName", "a", bench.do, ("copy", "z", "a"))
        self.asks("UnknownName", "z", bench.do, ("tie", "x", "z"))
        self.asks("Failed", ("drop", "x"), Bench(read_store("x=5 | 1>0")).do, ("drop", "x"))
        for value in NO_PROGRAMS + list(odd_values()):
            self.asks("InvalidProgram", value, bench.run, value)
        self.tells("HasLoop", {}, bench.run, "while a = b { c = d }")
        self.asks("TooMany", 6, bench.run, "a = b; c = d")
        self.asks("Failed", 2, bench.run, "x = END; y = x; drop x")
        for value in BAD + list(odd_values()):
            self.asks("InvalidSaying", value, bench.wish, value)
        self.asks("UnknownName", "a", bench.wish, "z = a * rest")
        for value in list(odd_values(but=(0,))) + [1, -1, True, False, 10 ** 40]:
            self.asks("InvalidIndex", value, bench.lift, value)
        self.points("Broken", 0, bench.run, "x = END; y = END")
        self.assertEqual(state(bench), before)
        self.asks("InvalidIndex", 0, Bench(ROW).lift, 0)
        self.tells("NothingToUndo", {}, Bench(ROW).undo)

    def test_order_of_errors(self):
        big = Bench(row_of(101))
        big.wish("x != END * rest")
        self.asks("UnknownName", "y", big.do, ("drop", "y"))
        self.asks("TooMany", 101, big.do, ("copy", "x", "END"))
        self.asks("TooMany", 5, big.run, "a = b; c = d; drop a")
        self.asks("TooMany", 101, big.run, "x = END; drop x")
        bench = Bench(read_store("x=0 | 1>0"))
        bench.wish("x = END * rest")
        # What fails is told before a wish that would not hold.
        self.asks("Failed", 1, bench.run, "x = new; drop y")
        self.asks("Failed", ("drop", "x"), bench.do, ("drop", "x"))
        self.points("Broken", 0, bench.run, "x = new")
        self.assertIsNone(Bench(row_of(100)).do(("new", "x")))

    def test_at_random(self):
        random = Random(471)
        words = {}
        for store in some_stores(random, "xy", 150):
            bench, plain = Bench(store), Plain(store)
            for _ in range(25):
                word, given = some_change(random, "xy")
                found, expected = raised(getattr(bench, word), *given), getattr(plain, word)(*given)
                self.assertEqual(found, expected, (word, given))
                self.assertEqual(state(bench), plain.state())
                self.assertTrue(all(keeps(bench.now, saying) for saying in bench.wishes))
                words[found and found[0]] = words.get(found and found[0], 0) + 1
        self.assertEqual(set(words), {None, "Broken", "Failed", "InvalidIndex", "NothingToUndo"})


class TrialTest(unittest.TestCase, Asking):
    def setUp(self):
        self.bench = Bench(ROW)
        self.bench.wish("x != END * rest")
        self.bench.do(("next", "y", "x"))
        self.before = state(self.bench)

    def test_a_call_alone_changes_nothing(self):
        self.bench.trial()
        trial = self.bench.trial()
        self.bench.do(("copy", "y", "END"))
        begun = state(self.bench)
        # The trial begins with its statement.
        with self.assertRaises(KeyError):
            with trial as bench:
                self.assertIs(bench, self.bench)
                bench.do(("copy", "y", "x"))
                raise KeyError("x")
        self.assertEqual(state(self.bench), begun)

    def test_all_stays_without_an_exception(self):
        with self.bench.trial() as bench:
            bench.do(("copy", "y", "x"))
            bench.lift(0)
        self.assertEqual((self.bench.now.text, self.bench.wishes, len(self.bench)), ("x=1 y=1 | 1>2 2>0", (), 4))
        with self.bench.trial():
            self.bench.undo()
        self.assertEqual((self.bench.wishes, len(self.bench)), (("x != END * rest",), 3))

    def test_exceptions_of_any_class_lead_back(self):
        for error in (ValueError("x"), Stop(), KeyboardInterrupt(), errors.Broken(0), StopIteration(), SystemExit(3), GeneratorExit()):
            with self.assertRaises(type(error)) as caught:
                with self.bench.trial() as bench:
                    bench.do(("new", "y"))
                    bench.wish("lost 0+ * rest")
                    raise error
            self.assertIs(caught.exception, error)
            self.assertEqual(state(self.bench), self.before)
        with self.assertRaises(errors.Broken):
            with self.bench.trial() as bench:
                bench.do(("new", "y"))
                bench.do(("copy", "x", "END"))
        self.assertEqual(state(self.bench), self.before)

    def test_changes_made_before_can_be_undone_within(self):
        with self.assertRaises(errors.NothingToUndo):
            with self.bench.trial() as bench:
                bench.undo()
                self.assertEqual(len(bench), 1)
                bench.undo()
                self.assertEqual((bench.now, bench.wishes, bench.log), (ROW, (), ()))
                bench.run("x = END; y = END")
                bench.undo()
                bench.undo()
        self.assertEqual(state(self.bench), self.before)
        # Undoing goes on as before.
        self.bench.undo()
        self.bench.undo()
        self.assertEqual(state(self.bench), (ROW, ROW, (), (), 0))

    def test_trials_within_trials(self):
        with self.bench.trial() as outer:
            outer.do(("new", "y"))
            middle = state(outer)
            with self.assertRaises(KeyError):
                with outer.trial() as inner:
                    inner.undo()
                    inner.undo()
                    inner.run("y = x")
                    raise KeyError
            self.assertEqual(state(outer), middle)
            with outer.trial():
                outer.do(("copy", "y", "x"))
        self.assertEqual((len(self.bench), self.bench.log[-1]), (4, "do y = x"))
        begun = state(self.bench)
        with self.assertRaises(Stop):
            with self.bench.trial():
                with self.bench.trial():
                    self.bench.undo()
                with self.bench.trial():
                    self.bench.undo()
                    raise Stop
        self.assertEqual(state(self.bench), begun)

    def test_one_trial_several_times(self):
        trial = self.bench.trial()
        with trial:
            self.bench.do(("copy", "y", "x"))
        with self.assertRaises(Stop):
            with trial:
                self.bench.do(("copy", "y", "END"))
                middle = state(self.bench)
                try:
                    with trial:
                        self.bench.undo()
                        self.bench.undo()
                        raise KeyError
                except KeyError:
                    self.assertEqual(state(self.bench), middle)
                raise Stop
        self.assertEqual((len(self.bench), self.bench.now.text), (3, "x=1 y=1 | 1>2 2>0"))

    def test_tried(self):
        def action(bench):
            bench.do(("copy", "y", "x"))
            return bench, 5

        self.assertEqual(self.bench.tried(action), (self.bench, 5))
        self.assertEqual(len(self.bench), 3)
        before = state(self.bench)

        def other(bench):
            bench.undo()
            bench.run("drop x; drop x")

        self.asks("Failed", 1, self.bench.tried, other)
        self.assertEqual(state(self.bench), before)
        self.assertIsNone(self.bench.tried(action=lambda bench: bench.tried(lambda inner: inner.lift(0))))
        self.assertEqual(self.bench.wishes, ())


if __name__ == "__main__":
    unittest.main()
