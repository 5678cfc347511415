"""Claims that are so, with papers that the checker accepts ([49])."""

import itertools
import unittest
from random import Random

from arrowcells.broken import broken, leaking
from arrowcells.certificates import (certify_alike, certify_inside, certify_keeps, certify_kept, certify_meet, certify_no_leak,
                                     certify_possible, certify_promise, certify_run, certify_same)
from arrowcells.checker import accepts
from arrowcells.differ import differing
from arrowcells.fits import keeps, placing
from arrowcells.inside import least_plan, parting_store
from arrowcells.lots import lot_of
from arrowcells.plans import are_alike, store_of
from arrowcells.programs import is_program
from arrowcells.promises import promise_broken
from arrowcells.runs import run
from arrowcells.sayings import is_saying
from arrowcells.stores import Store, read_store
from arrowcells.walkers import meet
from tests.chosen import some_program, some_sayings, some_straight, some_test
from tests.helpers import STORE, Asking, odd_values, some_stores
from tests.test_programs import NO_PROGRAMS, NO_TESTS
from tests.test_promises import WRONG_WEIGHTS
from tests.test_runs import row_of
from tests.test_sayings import BAD
from tests.test_walkers import Numbers

HUGE = 10 ** 30
NO_NAMES = list(odd_values()) + ["yx", "xx", "abcde"]
NO_SAYINGS = list(odd_values()) + BAD
LISTS = "chain x END 0+ * chain y END 0+"
TURNED = "x = END * chain y END 0+"
TURN = "t = next x; next x = y; y = x; x = t"
POP = "t = next x; drop x; x = t"


def text_of(plan):
    return None if plan is None else store_of(plan).text


class CertificateTest(unittest.TestCase, Numbers):
    def certified(self, found, claim, paper):
        """What is told is the claim with the paper, and is accepted."""
        self.assertEqual(found, (claim, paper))
        self.assertIs(accepts(claim, paper), True, (claim, paper))

    def test_keeps(self):
        store = read_store("x=1 y=2 | 1>2 2>0")
        self.certified(certify_keeps(store, "chain x y 1 * rest"), ("fits", store.text, "chain x y 1 * rest"), ((), (1,)))
        self.certified(certify_keeps(store, "chain x y 2 * rest"), ("keeps not", store.text, "chain x y 2 * rest"), ())
        self.certified(certify_keeps(store, "not ( gone x * rest )"), ("keeps", store.text, "not ( gone x * rest )"), ())
        self.certified(certify_keeps(saying="not ( rest )", store=store), ("keeps not", store.text, "not ( rest )"), ())
        random = Random(501)
        for names in ("x", "xy", "abc"):
            for saying in some_sayings(random, names, 60):
                for store in some_stores(random, names, 3):
                    found = certify_keeps(store, saying)
                    word = "keeps" if keeps(store, saying) else "keeps not"
                    if not saying.startswith(("not", "(")) and word == "keeps":
                        self.certified(found, ("fits", store.text, saying), placing(store, saying))
                    else:
                        self.certified(found, (word, store.text, saying), ())

    def test_possible(self):
        self.certified(certify_possible("x", "lost 3 * gone x * rest"), ("possible", "x", "lost 3 * gone x * rest"), "x=4 | 1>0 2>0 3>0")
        self.assertIsNone(certify_possible(saying="( rest ) and ( lost none )", names="x"))
        random = Random(502)
        for names in ("x", "xy"):
            for saying in some_sayings(random, names, 40):
                found, plan = certify_possible(names, saying), least_plan(lot_of(saying, names))
                if plan is None:
                    self.assertIsNone(found)
                else:
                    self.certified(found, ("possible", names, saying), text_of(plan))

    def test_inside(self):
        self.certified(certify_inside("x", "chain x END 1", "chain x END 0+"), ("inside", "x", "chain x END 1", "chain x END 0+"), ())
        self.certified(certify_inside(other="chain x END 1", names="x", saying="chain x END 0+"), ("outside", "x", "chain x END 0+", "chain x END 1"),
                       "x=0 | none")
        random = Random(503)
        words = {}
        for names in ("x", "xy"):
            sayings = list(some_sayings(random, names, 30, 3, 3))
            for saying, other in zip(sayings, sayings[1:]):
                for second in (other, f"( {saying} ) or ( {other} )"):
                    if is_saying(second):
                        found, store = certify_inside(names, saying, second), parting_store(saying, second, names)
                        word = "inside" if store is None else "outside"
                        self.certified(found, (word, names, saying, second), () if store is None else store.text)
                        words[word] = words.get(word, 0) + 1
        self.assertGreater(min(words.values()), 5)

    def test_run(self):
        start = read_store("x=1 y=0 | 1>2 2>0")
        self.certified(certify_run("y = next x; next x = END", start, 400), ("run", "y = next x; next x = END", start.text, "x=1 y=2 | 1>0 2>0"),
                       ("x=1 y=2 | 1>2 2>0", "x=1 y=2 | 1>0 2>0"))
        self.certified(certify_run(most=0, store=start, program="none"), ("run", "none", start.text, start.text), ())
        self.certified(certify_run("if x = END { drop x }", start, 1), ("run", "if x = END { drop x }", start.text, start.text), ())
        self.assertIsNone(certify_run("if x = END { drop x }", start, 0))
        self.assertIsNone(certify_run("drop y", start, 9))
        self.assertIsNone(certify_run("while x = x { none }", start, 400))
        random = Random(504)
        done = 0
        for _ in range(200):
            program = some_program(random, list("xyt"), random.randint(1, 8), 2)
            for store in some_stores(random, "xy", 2) if is_program(program) else ():
                most = random.choice([400, 400, 5])
                told, found = run(program, store, most), certify_run(program, store, most)
                self.assertIs(found is None, told.word != "done")
                if found is not None:
                    self.assertEqual(found[0], ("run", program, store.text, told.store.text))
                    self.assertIs(accepts(*found), True, found)
                    done += 1
        self.assertGreater(done, 80)

    def test_alike(self):
        one, two = read_store("x=1 y=9 | 1>2 2>0 7>7"), read_store("x=5 y=4 | 2>0 5>2 6>1")
        self.certified(certify_alike(one, two), ("alike", one.text, two.text), ((1, 5), (2, 2)))
        self.certified(certify_alike(other=one, store=two), ("alike", two.text, one.text), ((2, 2), (5, 1)))
        three = read_store("x=5 y=0 | 2>0 5>2 6>1")
        self.certified(certify_alike(one, three), ("unlike", one.text, three.text), ())
        random = Random(505)
        for names in ("x", "xy"):
            stores = list(some_stores(random, names, 60))
            for first, second in itertools.combinations(stores, 2):
                found = certify_alike(first, second)
                self.assertEqual(found[0][0], "alike" if are_alike(first, second) else "unlike")
                self.assertIs(accepts(*found), True)

    def test_kept(self):
        self.certified(certify_kept("x", "chain x END 1+", "x = next x", "chain x END 0+"),
                       ("broken", "x", "chain x END 1+", "x = next x", "chain x END 0+"), "x=1 | 1>0")
        self.certified(certify_kept(other="chain x END 0+", program=POP, saying="chain x END 1+", names="x"),
                       ("kept", "x", "chain x END 1+", POP, "chain x END 0+"), ())
        random = Random(506)
        words = {}
        for names in ("x", "xy"):
            sayings = list(some_sayings(random, names, 30, 3, 3)) + ["rest", "lost 0 * rest", "x != END * rest"]
            for _ in range(60):
                saying, other, program = random.choice(sayings), random.choice(sayings), some_straight(random, names, 4)
                plan = broken(lot_of(saying, names), program, lot_of(other, names))
                word = "kept" if plan is None else "broken"
                self.certified(certify_kept(names, saying, program, other), (word, names, saying, program, other), text_of(plan) or ())
                words[word] = words.get(word, 0) + 1
        self.assertGreater(min(words.values()), 10)

    def test_same(self):
        two, other = "x = next x; x = next x", "t = next x; x = next t"
        self.certified(certify_same("x", two, other, "rest"), ("same", "x", two, other, "rest"), ())
        self.certified(certify_same(saying="rest", other="x = END", program="x = next x", names="x"), ("differ", "x", "x = next x", "x = END", "rest"),
                       "x=1 | none")
        random = Random(507)
        words = {}
        for names in ("x", "xy"):
            sayings = list(some_sayings(random, names, 20, 3, 3)) + ["rest", "lost 0 * rest", "x != END * rest"]
            for _ in range(60):
                saying, first = random.choice(sayings), some_straight(random, names, 4)
                second = random.choice([some_straight(random, names, 4), f"{first}; {names[0]} = {names[0]}" if first != "none" else first])
                plan = differing(first, second, lot_of(saying, names))
                word = "same" if plan is None else "differ"
                self.certified(certify_same(names, first, second, saying), (word, names, first, second, saying), text_of(plan) or ())
                words[word] = words.get(word, 0) + 1
        self.assertGreater(min(words.values()), 15)

    def test_no_leak(self):
        self.certified(certify_no_leak("x", "chain x END 0+", POP), ("no leak", "x", "chain x END 0+", POP), ())
        self.certified(certify_no_leak(program="x = next x", saying="chain x END 0+", names="x"), ("leaks", "x", "chain x END 0+", "x = next x"), "x=1 | 1>0")
        random = Random(508)
        words = {}
        for names in ("x", "xy"):
            sayings = list(some_sayings(random, names, 20, 3, 3)) + ["rest", "lost 0 * rest", "x != END * rest"]
            for _ in range(60):
                saying, program = random.choice(sayings), some_straight(random, names, 4)
                plan = leaking(lot_of(saying, names), program)
                word = "no leak" if plan is None else "leaks"
                self.certified(certify_no_leak(names, saying, program), (word, names, saying, program), text_of(plan) or ())
                words[word] = words.get(word, 0) + 1
        self.assertGreater(min(words.values()), 15)

    def test_promise(self):
        parts = "xy", LISTS, "x != END", TURN, LISTS, TURNED, (("x", 1),)
        self.certified(certify_promise(*parts), ("promise",) + parts, ())
        named = dict(zip(("names", "before", "test", "body", "promise", "after", "weights"), parts))
        self.certified(certify_promise(**{**named, "weights": None}), ("promise",) + parts[:-1] + (None,), ())
        self.certified(certify_promise(**{**named, "promise": TURNED}), ("no promise",) + parts[:4] + (TURNED,) + parts[5:], ("start", "x=1 y=0 | 1>0"))
        self.certified(certify_promise(**{**named, "body": "x = next x"}), ("no promise",) + parts[:3] + ("x = next x",) + parts[4:],
                       ("turn", "x=1 y=0 | 1>0"))
        self.certified(certify_promise(**{**named, "after": "lost none"}), ("no promise",) + parts[:5] + ("lost none",) + parts[6:],
                       ("end", "x=0 y=0 | none"))
        claim, paper = certify_promise(**{**named, "weights": (("y", 9),)})
        self.assertEqual((claim, paper[0]), (("no promise",) + parts[:6] + ((("y", 9),),), "fall"))
        self.assertIs(accepts(claim, paper), True)
        random = Random(509)
        words = {}
        for names in ("x", "xy"):
            sayings = list(some_sayings(random, names, 12, 3, 3)) + ["rest", "chain x END 0+ * rest", "x != END * rest", "lost 0 * rest"]
            for _ in range(110):
                before, promise, after = random.choices(sayings, k=3)
                parts = (names, random.choice([promise, "lost none", before]), some_test(random, list(names)), some_straight(random, names, 4), promise,
                         random.choice([after, "rest"]), random.choice([None, (), (("x", 1),), tuple((letter, random.randint(0, 9)) for letter in names)]))
                claim, paper = certify_promise(*parts)
                lots = [lot_of(parts[at], names) for at in (1, 4, 5)]
                found = promise_broken(lots[0], parts[2], parts[3], lots[1], lots[2], parts[6])
                self.assertEqual(claim, ("promise" if found is None else "no promise",) + parts)
                self.assertEqual(paper, () if found is None else (found[0], text_of(found[1])))
                self.assertIs(accepts(claim, paper), True, (claim, paper))
                words[found and found[0]] = words.get(found and found[0], 0) + 1
        self.assertEqual(set(words), {None, "start", "turn", "end", "fall"})

    def test_far_falls(self):
        # The sum falls as long as there are less than 180 cells on the way of x.
        some = "( some h : chain x h 12 * chain h END 12+ * y = END * rest ) or ( y != END * rest )"
        claim, paper = certify_promise("xy", "lost none", "y = END and x != END", "; ".join(["y = x"] + ["x = next x"] * 20), some, "rest",
                                       (("x", 9), ("y", 1)))
        self.assertEqual((claim[0], paper[0]), ("no promise", "fall"))
        self.assertIs(accepts(claim, paper), True)
        self.assertEqual(len(read_store(paper[1]).cells), 180)

    def test_meet(self):
        self.certified(certify_meet(3, 4, 1, 2, 0), ("meet", 3, 4, 1, 2, 0, 4), 1)
        self.certified(certify_meet(7, 2, 0, 0, 0), ("meet", 7, 2, 0, 0, 0, 1), 0)
        self.assertIsNone(certify_meet(lead=1, fast=3, slow=1, ring=6, tail=5))
        self.certified(certify_meet(HUGE, HUGE, 1, 2, 0), ("meet", HUGE, HUGE, 1, 2, 0, HUGE), 1)
        self.certified(certify_meet(HUGE, HUGE - 1, 1, HUGE, 0), ("meet", HUGE, HUGE - 1, 1, HUGE, 0, meet(HUGE, HUGE - 1, 1, HUGE, 0)), HUGE)
        for told in itertools.product((0, 1, 3, 7), (1, 2, 5), (0, 1, 2), (2, 3, 5), (0, 1, 4)):
            found, turn = certify_meet(*told), meet(*told)
            if turn is None:
                self.assertIsNone(found)
            else:
                self.certified(found, ("meet", *told, turn), (told[4] + (told[3] - told[2]) * turn) // told[1])


class ErrorsTest(unittest.TestCase, Numbers):
    def test_errors_of_stores(self):
        for value in odd_values(but=(Store,)):
            self.asks("NotAStore", value, certify_keeps, value, None)
            self.asks("NotAStore", value, certify_alike, value, None)
            self.asks("NotAStore", value, certify_alike, STORE, value)
            self.asks("NotAStore", value, certify_run, "a = b; c = d", value, None)
        for value in NO_SAYINGS:
            self.asks("InvalidSaying", value, certify_keeps, STORE, value)
        self.asks("UnknownName", "a", certify_keeps, STORE, "( z = x ) or ( b = a )")
        for value in NO_PROGRAMS + list(odd_values()):
            self.asks("InvalidProgram", value, certify_run, value, None, None)
        for value in list(odd_values(but=(0, 1))) + [401, -1]:
            self.asks("InvalidNumber", value, certify_run, "a = b; c = d", row_of(101), value)
        self.asks("TooMany", 5, certify_run, "a = b; c = d", row_of(101), 9)
        self.asks("TooMany", 101, certify_run, "a = b", row_of(101), 9)
        self.tells("OtherNames", {"names": "x", "other": "xy"}, certify_alike, STORE, read_store("x=1 y=1 | none"))
        self.tells("OtherNames", {"names": "xy", "other": "y"}, certify_alike, read_store("x=1 y=1 | none"), read_store("y=1 | none"))
        self.asks_for_numbers(certify_meet, 0, 1, 0, 0, 0)
        self.asks("InvalidNumber", 2, certify_meet, 5, 1, 3, 2, None)

    def rows(self):
        """For each function a row of arguments without errors of their own, and the kinds of these."""
        yield certify_possible, ("xyz", "gone a"), ("names", "saying")
        yield certify_inside, ("xyz", "gone a", "gone b"), ("names", "saying", "saying")
        yield certify_kept, ("xyz", "gone a", "c = d; e = f", "gone b"), ("names", "saying", "program", "saying")
        yield certify_same, ("xyz", "c = d; e = f", "a = b; c = d", "gone a"), ("names", "program", "program", "saying")
        yield certify_no_leak, ("xyz", "gone a", "c = d; e = f"), ("names", "saying", "program")
        yield (certify_promise, ("xyz", "gone a", "x = y", "c = d; e = f", "gone b", "gone c", (("x", 1),)),
               ("names", "saying", "test", "program", "saying", "saying", "weights"))

    def test_errors_come_argument_by_argument(self):
        wrong = {"names": ("InvalidNames", NO_NAMES), "saying": ("InvalidSaying", NO_SAYINGS), "program": ("InvalidProgram", NO_PROGRAMS + list(odd_values())),
                 "test": ("InvalidTest", NO_TESTS + list(odd_values()))}
        for action, row, kinds in self.rows():
            for at, kind in enumerate(kinds):
                behind = (None,) * (len(row) - at - 1)
                if kind == "weights":
                    for value in odd_values(but=(tuple, None)):
                        self.points("InvalidWeights", None, action, *row[:at], value)
                    for value, index in WRONG_WEIGHTS:
                        self.points("InvalidWeights", index, action, "xy", *row[1:at], value)
                    continue
                for value in wrong[kind][1]:
                    self.asks(wrong[kind][0], value, action, *row[:at], value, *behind)
                if kind == "program":
                    self.tells("HasLoop", {}, action, *row[:at], "while x = y { c = d }", *behind)
                if kind == "test":
                    self.asks("UnknownName", "a", action, *row[:at], "z = x or b = a", *behind)

    def test_errors_of_lots_come_last(self):
        self.asks("UnknownName", "a", certify_possible, "xyz", "( z = b ) and ( a = x )")
        self.asks("TooMany", 3, certify_possible, "xyz", "gone z")
        self.asks("UnknownName", "a", certify_inside, "xyz", "gone a", "gone b")
        self.asks("UnknownName", "b", certify_inside, "xyz", "gone x", "gone b")
        self.asks("TooMany", 3, certify_inside, "xyz", "gone x", "gone y")
        self.asks("UnknownName", "a", certify_kept, "xyz", "gone a", "c = d; e = f", "gone b")
        self.asks("UnknownName", "b", certify_kept, "xyz", "gone x", "c = d; e = f", "gone b")
        self.asks("TooMany", 3, certify_kept, "xyz", "gone x", "c = d; e = f", "gone y")
        self.asks("TooMany", 6, certify_kept, "xy", "gone x", "c = d; e = f", "gone y")
        self.asks("UnknownName", "a", certify_same, "xyz", "c = d; e = f", "a = b; c = d; e = e", "gone a")
        self.asks("TooMany", 3, certify_same, "xyz", "c = d; e = f", "a = b; c = d; e = e", "gone x")
        self.asks("TooMany", 6, certify_same, "xy", "c = d; e = f", "a = b; c = d; e = e", "gone x")
        self.asks("TooMany", 7, certify_same, "xy", "c = d", "a = b; c = d; e = e", "gone x")
        self.asks("UnknownName", "a", certify_no_leak, "xyz", "gone a", "c = d; e = f")
        self.asks("TooMany", 3, certify_no_leak, "xyz", "gone x", "c = d; e = f")
        self.asks("TooMany", 6, certify_no_leak, "xy", "gone x", "c = d; e = f")
        row = ["xyz", "gone a", "x = y", "c = d; e = f", "gone b", "gone c", None]
        self.asks("UnknownName", "a", certify_promise, *row)
        row[1] = "gone x"
        self.asks("UnknownName", "b", certify_promise, *row)
        row[4] = "gone y"
        self.asks("UnknownName", "c", certify_promise, *row)
        row[5] = "gone x"
        self.asks("TooMany", 3, certify_promise, *row)
        row[0] = "xy"
        self.asks("TooMany", 6, certify_promise, *row)
        row[3] = "c = d"
        self.assertIsNotNone(certify_promise(*row))


if __name__ == "__main__":
    unittest.main()
