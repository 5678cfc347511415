"""Consoles and the lines that they are told ([48])."""

import unittest
from random import Random

from arrowcells.benches import Bench
from arrowcells.consoles import Console
from arrowcells.fits import keeps
from arrowcells.plans import plan_of
from arrowcells.stores import read_store
from tests.helpers import Asking, odd_values, raised, some_stores
from tests.test_benches import some_change, state
from tests.test_programs import NO_PROGRAMS
from tests.test_runs import row_of
from tests.test_sayings import BAD

ROW = read_store("x=1 y=0 | 1>2 2>0")
NO_LINES = [
    "", " ", "do", "do ", "run", "run ", "wish", "wish ", "keeps", "keeps ", "lift", "lift ", "lift x", "lift -1", "lift 01", "lift 0 ",
    "lift  0", "lift +1", "lift 1 2", "undo ", "undo 1", " undo", "undo now", "now ", " now", "now x", "start x", "plan ", "lost 0", "log ",
    "many 1", "wishes x", "Do x = y", "DO x = y", "UNDO", "done", "help", "keep rest", "doing x = y", "do\tx = y", "now\n", "\n", "x = y",
    "trial", "none", "start\n", "lift 1.0", "lift 1_0", "lift \n",
]


class ConsoleTest(unittest.TestCase, Asking):
    def told(self, console, *pairs):
        """The answers to lines, one behind the other."""
        for line, answer in pairs:
            self.assertEqual(console.say(line), answer, line)

    def test_changes(self):
        bench = Bench(ROW)
        console = Console(bench=bench)
        self.assertIs(console.bench, bench)
        self.told(console, ("wish lost 0 * rest", "done"), ("do y = next x", "done"), ("run next x = END", "done"),
                  ("now", "x=1 y=2 | 1>0 2>0"), ("undo", "done"), ("now", "x=1 y=2 | 1>2 2>0"), ("lift 0", "done"),
                  ("many", "3"), ("do drop y", "done"), ("do x = new", "done"), ("do next x = END", "done"), ("do y = END", "done"))
        self.assertEqual(bench.log, ("wish lost 0 * rest", "do y = next x", "lift 0", "do drop y", "do x = new", "do next x = END", "do y = END"))
        self.assertEqual((bench.wishes, len(bench)), ((), 7))

    def test_questions(self):
        console = Console(Bench(ROW))
        self.told(console, ("now", ROW.text), ("start", ROW.text), ("plan", "x>1 y. | 2 | 0"), ("lost", "0"), ("log", "none"), ("wishes", "none"),
                  ("many", "0"), ("keeps x = y * rest", "no"), ("keeps chain x y 2", "yes"), ("keeps not ( gone x * rest )", "yes"))
        self.told(console, ("do x = END", "done"), ("wish lost 2 * rest", "done"), ("wish x = y * rest", "done"), ("lift 0", "done"),
                  ("now", "x=0 y=0 | 1>2 2>0"), ("start", ROW.text), ("plan", "xy. | none | 2"), ("lost", "2"), ("wishes", "x = y * rest"),
                  ("log", "do x = END, wish lost 2 * rest, wish x = y * rest, lift 0"), ("many", "4"), ("wish lost 2 * rest", "done"),
                  ("wishes", "x = y * rest, lost 2 * rest"), ("keeps rest", "yes"))
        self.assertEqual(len(console.bench), 5)

    def test_consoles_are_equal_to_themselves_alone(self):
        bench = Bench(ROW)
        console = Console(bench)
        self.assertTrue(console == console and console != Console(bench) and console and not console == bench)
        # Two consoles of one bench tell the same.
        Console(bench).say("do x = y")
        self.assertEqual(console.say("many"), "1")
        for value in odd_values():
            self.asks("NotABench", value, Console, value)

    def test_lines_that_are_none(self):
        console = Console(Bench(ROW))
        for line in NO_LINES + list(odd_values()):
            self.asks("InvalidLine", line, console.say, line)
        self.assertEqual(len(console.bench), 0)

    def test_errors_of_what_is_called(self):
        console = Console(Bench(ROW))
        # The text is passed on as it is, with all its blanks.
        for text in NO_PROGRAMS + ["none", "x = y; y = x", "if x = y { x = y }", " x = y", "x = y ", "copy x y", "?", "x"]:
            if text:
                self.asks("InvalidDeed", text, console.say, f"do {text}")
        for text in NO_PROGRAMS:
            if text:
                self.asks("InvalidProgram", text, console.say, f"run {text}")
        for text in BAD + [" rest", "rest "]:
            if isinstance(text, str) and text:
                self.asks("InvalidSaying", text, console.say, f"wish {text}")
                self.asks("InvalidSaying", text, console.say, f"keeps {text}")
        self.asks("UnknownName", "z", console.say, "do z = x")
        self.asks("Failed", ("drop", "y"), console.say, "do drop y")
        self.tells("HasLoop", {}, console.say, "run while x = x { none }")
        self.asks("TooMany", 5, console.say, "run a = b; b = c")
        self.asks("Failed", 1, console.say, "run x = y; drop x")
        self.asks("UnknownName", "z", console.say, "wish z = x * rest")
        self.asks("UnknownName", "z", console.say, "keeps z = x * rest")
        self.points("Broken", 0, console.say, "wish x = y * rest")
        self.asks("InvalidIndex", 0, console.say, "lift 0")
        self.asks("InvalidIndex", 10 ** 99, console.say, f"lift {10 ** 99}")
        self.tells("NothingToUndo", {}, console.say, "undo")
        self.assertEqual(state(console.bench), (ROW, ROW, (), (), 0))
        console.say("wish x != y * rest")
        self.points("Broken", 0, console.say, "do y = x")
        self.points("Broken", 0, console.say, "run y = x")
        self.points("Broken", 1, console.say, "wish x = y * rest")
        self.asks("InvalidIndex", 1, console.say, "lift 1")
        big = Console(Bench(row_of(101)))
        self.asks("TooMany", 101, big.say, "do x = END")
        self.asks("TooMany", 101, big.say, "run x = END")
        self.told(big, ("wish x != END * rest", "done"), ("lost", "0"), ("plan", "x>1 -. | 101 | 0"), ("lift 0", "done"))

    def test_the_log_makes_the_same_bench(self):
        random = Random(481)
        most = 0
        for store in some_stores(random, "xy", 120):
            bench = Bench(store)
            console = Console(bench)
            for _ in range(20):
                word, given = some_change(random, "xy")
                raised(getattr(bench, word), *given)
            again = Console(Bench(store))
            for line in bench.log:
                self.assertEqual(again.say(line), "done")
            self.assertEqual(state(again.bench), state(bench))
            self.told(console, ("now", bench.now.text), ("plan", plan_of(bench.now).text), ("lost", str(plan_of(bench.now).lost)),
                      ("many", str(len(bench))), ("log", ", ".join(bench.log) or "none"), ("wishes", ", ".join(bench.wishes) or "none"),
                      ("keeps lost 0 * rest", "yes" if keeps(bench.now, "lost 0 * rest") else "no"))
            most = max(most, len(bench))
        self.assertGreater(most, 8)


if __name__ == "__main__":
    unittest.main()
