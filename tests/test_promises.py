"""Promises that hold loops ([30], [31])."""

import unittest
from random import Random

from arrowcells.farruns import far_run
from arrowcells.images import failing, image
from arrowcells.inside import is_empty, is_same, lies_inside
from arrowcells.lots import Lot, every, has_plan, lot_of
from arrowcells.lotsums import either, minus, passing
from arrowcells.planruns import plan_holds, plan_run
from arrowcells.plans import Plan, plan_of, store_of
from arrowcells.programs import is_program
from arrowcells.promises import found_promise, loop_text, promise_broken, way_cells, weight_of, wide
from arrowcells.runs import run
from arrowcells.shapes import shapes
from arrowcells.ways import way
from tests.chosen import some_lot, some_shapes, some_straight, some_test
from tests.helpers import LOT, PLAN, Asking, box, box_texts, odd_values, place_of_plan, plans_up_to, some_stores
from tests.test_programs import NO_PROGRAMS, NO_TESTS

HUGE = 10 ** 30
TURN = "t = next x; next x = y; y = x; x = t"
POP = "t = next x; drop x; x = t"
WRONG_WEIGHTS = [
    ((("x", 1), ("x", 2)), 1), ((("y", 1), ("x", 2)), 1), ((("x", 10),), 0), ((("x", -1),), 0), ((("x", True),), 0),
    ((("x", None),), 0), ((("z", 1),), 0), ((("", 1),), 0), ((("xy", 1),), 0), (((None, 1),), 0), ((["x", 1],), 0),
    (("x1",), 0), ((("x",),), 0), ((("x", 1, 1),), 0), ((("x", 0), ("y", 9), ("y", 9)), 2), ((("x", 1), ("a", 1)), 1),
    ((("x", 1), None), 1), (((("x",), 1),), 0), ((("x", "1"),), 0), ((("x", 1), ((), ())), 1), ((b"x1",), 0),
]


def told(found):
    return None if found is None else (found[0], found[1].text)


def naive_broken(before, test, body, promise, after, weights, plans):
    """The first word that does not hold for some of the ordered plans, and the list of the plans that break it."""
    def holds(plan):
        return has_plan(promise, plan) and plan_holds(test, plan)

    def strays(plan):
        behind = plan_run(body, plan, 400)
        return behind.word != "done" or not has_plan(promise, behind.plan)

    def rises(plan):
        behind = plan_run(body, plan, 400)
        return behind.word == "done" and naive_weight(behind.plan, weights) >= naive_weight(plan, weights)

    parts = [("start", lambda plan: has_plan(before, plan) and not has_plan(promise, plan)),
             ("turn", lambda plan: holds(plan) and strays(plan)),
             ("end", lambda plan: has_plan(promise, plan) and not plan_holds(test, plan) and not has_plan(after, plan))]
    if weights is not None:
        parts.append(("fall", lambda plan: holds(plan) and rises(plan)))
    for word, is_so in parts:
        bad = [plan for plan in plans if is_so(plan)]
        if bad:
            return word, bad
    return None


def naive_weight(plan, weights):
    """The sum of [30], by walking the ways in the canonical store."""
    return sum(weight * len(way(store_of(plan), letter)) for letter, weight in weights)


class PromiseBrokenTest(unittest.TestCase, Asking):
    def setUp(self):
        self.lists = lot_of("chain x END 0+", "x")
        self.two = lot_of("chain x END 0+ * chain y END 0+", "xy")
        self.turned = lot_of("x = END * chain y END 0+", "xy")

    def test_all_parts_hold(self):
        self.assertIsNone(promise_broken(self.two, "x != END", TURN, self.two, self.turned, (("x", 1),)))
        self.assertIsNone(promise_broken(self.two, "x != END", TURN, self.two, self.turned, (("x", 9), ("y", 8))))
        self.assertIsNone(promise_broken(self.two, "x != END", TURN, self.two, self.turned, None))
        self.assertIsNone(promise_broken(self.lists, "x != END", POP, self.lists, lot_of("x = END", "x"), (("x", 3),)))
        rings = lot_of("chain x x 1+ * rest", "x")
        self.assertIsNone(promise_broken(rings, "x != END", "x = next x", rings, Lot("x", ()), None))
        # Plans that are not in the promise, or for which the test does not hold, are not asked for a turn.
        self.assertIsNone(promise_broken(Lot("x", ()), "x = END", "drop x", Lot("x", ()), Lot("x", ()), ()))
        self.assertIsNone(promise_broken(self.lists, "x != x", "drop x; drop x", self.lists, self.lists, (("x", 0),)))

    def test_start(self):
        some = lot_of("chain x END 3+2", "x")
        for promise, expected in ((lot_of("chain x END 0+", "x"), None), (lot_of("chain x END 3 5 9+2", "x"), "x>1 -. | 7 | 0"),
                                  (Lot("x", ()), "x>1 -. | 3 | 0"), (lot_of("chain x END 3+4", "x"), "x>1 -. | 5 | 0")):
            found = promise_broken(some, "x = END", "none", promise, every("x"), None)
            self.assertEqual(told(found), expected and ("start", expected))

    def test_turn(self):
        for body, expected in (("x = next x", "x>1 -. | 1 | 0"), ("drop x; drop x", "x>1 -. | 1 | 0"), (POP, None),
                               ("if x != END { x = x }", None), ("t = next x; t = next t; t = END", "x>1 -. | 1 | 0"),
                               ("t = x; t = next t; if t != END { drop t; next x = t }", "x>1 -. | 2 | 0")):
            found = promise_broken(self.lists, "x != END", body, self.lists, lot_of("x = END", "x"), None)
            self.assertEqual(told(found), expected and ("turn", expected), body)
        # The start is looked at first, and the turn before the end and the fall.
        self.assertEqual(told(promise_broken(every("x"), "x != END", "drop x; drop x", self.lists, Lot("x", ()), ())),
                         ("start", "x! | none | 0"))
        self.assertEqual(told(promise_broken(self.lists, "x != END", "drop x; drop x", self.lists, Lot("x", ()), ())),
                         ("turn", "x>1 -. | 1 | 0"))

    def test_end(self):
        for after, expected in ((lot_of("x = END", "x"), None), (self.lists, None), (Lot("x", ()), "x. | none | 0"),
                                (lot_of("x = END * lost 1+ * rest", "x"), "x. | none | 0")):
            found = promise_broken(self.lists, "x != END", POP, self.lists, after, ())
            self.assertEqual(told(found), ("fall", found[1].text) if expected is None else ("end", expected))
        odd = lot_of("chain x END 1+2", "x")
        walk = "t = next x; x = next t; drop t"
        self.assertEqual(told(promise_broken(odd, "x = END", walk, odd, lot_of("chain x END 1 3 5+4", "x"), None)),
                         ("end", "x>1 -. | 7 | 0"))

    def test_fall(self):
        found = promise_broken(self.two, "x != END", TURN, self.two, self.two, (("y", 1),))
        self.assertEqual(found[0], "fall")
        self.assertTrue(has_plan(self.two, found[1]) and plan_holds("x != END", found[1]))
        for weights, expected in ((None, None), ((), "fall"), ((("x", 0),), "fall"), ((("x", 1), ("y", 1)), "fall"),
                                  ((("x", 2), ("y", 1)), None), ((("x", 1), ("y", 2)), "fall"), ((("y", 0),), "fall")):
            found = promise_broken(self.two, "x != END", TURN, self.two, self.two, weights)
            self.assertEqual(found and found[0], expected, weights)
        # Nothing is asked where the body fails, or where the test does not hold.
        held = lot_of("gone x", "x")
        self.assertIsNone(promise_broken(held, "x = END", "none", held, held, ()))
        self.assertEqual(told(promise_broken(held, "x != END", "none", held, held, ())), ("fall", "x! | none | 0"))

    def test_far_falls(self):
        # Behind a turn, 9 times a cell less lies on the way of x, and its old way is that of y: so it falls up to 8 cells.
        body, test, weights = "y = x; x = next x", "x != END and y = END", (("x", 9), ("y", 1))
        lists = minus(lot_of("chain x END 0+ * rest", "xy"), Lot("xy", (box("x>1 y.", "1+", "0+"),)))
        for numbers, expected in (("1+", 9), ("1 2 8", None), ("8", None), ("1 2 8 9", 9), ("3 5 30+7", 30), ("8+60", 68), ("2+3", 11),
                                  ("1 599", 599)):
            promise = either(lists, Lot("xy", (box("x>1 y.", numbers, "2+"),)))
            found = promise_broken(Lot("xy", ()), test, body, promise, promise, weights)
            self.assertEqual(found and found[0], expected and "fall", numbers)
            if found is not None:
                self.assertTrue(has_plan(promise, found[1]) and plan_holds(test, found[1]))
                self.assertGreaterEqual(found[1].lengths, (expected,))
                self.assertGreaterEqual(weight_of(plan_run(body, found[1], 400).plan, weights), weight_of(found[1], weights))
            self.assertIsNone(promise_broken(Lot("xy", ()), test, body, promise, promise, None))

    def test_falls_of_several_stretches(self):
        # The way of x is that of y behind the turn: a tail and a ring, both of which count.
        body, test = "y = x; x = next x", "x != END and y = END"
        for tails, rings, weight, expected in (
                ("2 4", "1 5", 1, (4, 5)), ("2 3", "1 5", 1, None), ("2 4", "1 4", 1, None), ("2 3", "1+2", 1, (3, 7)), ("2+2", "1 5", 1, (8, 1)),
                ("2", "1 6+", 1, (2, 7)), ("2", "1", 3, (2, 1)), ("2", "1+", 2, (2, 3)), ("2+", "1", 2, (4, 1)), ("2 9", "1", 2, (9, 1)),
                ("2 3", "1 2 20", 2, (3, 2)), ("2 3", "1 3 20", 1, (3, 20)), ("2", "1 4+5", 1, (2, 9))):
            only = Lot("xy", (box("x>1 ->1 y.", tails, rings, "0+"),))
            goal = image(only, body)
            found = promise_broken(Lot("xy", ()), test, body, either(only, goal), either(only, goal), (("x", 9), ("y", weight)))
            self.assertEqual(found and (found[0], found[1].lengths), expected and ("fall", expected), (tails, rings, weight))

    def test_helpers_lead_to_end_in_each_turn(self):
        body = "if t = END { x = next x } else { drop t }; t = x"
        lists = lot_of("chain x END 0+ * rest", "x")
        self.assertIsNone(promise_broken(lists, "x != END", body, lists, lot_of("x = END * rest", "x"), (("x", 1),)))
        # Cells that helpers alone come to are lost at the end of the turn.
        strict = lot_of("chain x END 0+", "x")
        self.assertEqual(told(promise_broken(strict, "x != END", "t = new; u = next x; drop x; x = u", strict, strict, None)),
                         ("turn", "x>1 -. | 1 | 0"))

    def test_steps_and_endless_sets(self):
        two_away = "t = next x; u = next t; drop x; drop t; x = u"
        even = lot_of("chain x END 0+2", "x")
        self.assertIsNone(promise_broken(lot_of("chain x END 4+6", "x"), "x != END", two_away, even, lot_of("x = END", "x"), (("x", 1),)))
        odd = lot_of("chain x END 1+2", "x")
        self.assertEqual(told(promise_broken(odd, "x != END", two_away, odd, every("x"), None)), ("turn", "x>1 -. | 1 | 0"))
        self.assertEqual(told(promise_broken(odd, "x != END", two_away, either(odd, even), even, None)), ("turn", "x>1 -. | 1 | 0"))
        far = Lot("x", (box("x>1 -.", "2+2", "0"), box("x.", "0")))
        self.assertEqual(told(promise_broken(far, "x != END", two_away, minus(far, Lot("x", (box("x>1 -.", "500", "0"),))), far, None)),
                         ("start", "x>1 -. | 500 | 0"))
        held = minus(far, Lot("x", (box("x>1 -.", "500", "0"),)))
        self.assertEqual(told(promise_broken(held, "x != END", two_away, held, far, None)), ("turn", "x>1 -. | 502 | 0"))

    def test_at_random(self):
        random = Random(301)
        words = {}
        for names, many, size in (("x", 130, 8), ("xy", 220, 6), ("abc", 50, 5), ("abcd", 30, 5)):
            told_shapes = some_shapes(random, names)
            for _ in range(many):
                few = random.sample(told_shapes, min(len(told_shapes), random.choice([2, 4, 8])))
                body, test = some_straight(random, names, 5), some_test(random, list(names))
                promise = some_lot(random, names, few, 5, 2)
                for _ in range(random.choice([0, 2, 2])):
                    # Mostly what the turns lead to belongs to the promise.
                    promise = either(promise, image(passing(promise, test), body))
                if random.random() < 0.5:
                    promise = minus(promise, failing(promise, body))
                before = random.choice([promise, Lot(names, promise.boxes[:2]), some_lot(random, names, few, 1, 2)])
                after = random.choice([promise, promise, some_lot(random, names, few, 5, 2)])
                weights = random.choice([None, tuple((letter, random.randint(0, 9)) for letter in names if random.random() < 0.8)])
                found = promise_broken(before, test, body, promise, after, weights)
                in_play = {box_[0] for lot in (before, promise) for box_ in lot.boxes}
                if len(in_play) > 30:
                    continue
                expected = naive_broken(before, test, body, promise, after, weights, plans_up_to(names, size, sorted(in_play)))
                self.check_found(found, expected, size, (names, test, body, weights), (before, promise, after, test, body, weights))
                word = found and found[0]
                words[word] = words.get(word, 0) + 1
        self.assertEqual(set(words), {None, "start", "turn", "end", "fall"})
        self.assertGreater(min(words.values()), 20)

    def check_found(self, found, expected, size, note, parts):
        """What is told agrees with what is naively found among the plans up to a size."""
        order = ["start", "turn", "end", "fall", None]
        if expected is not None:
            self.assertIsNotNone(found, note)
            self.assertLessEqual(order.index(found[0]), order.index(expected[0]), note)
            if found[0] == expected[0] and found[0] != "fall":
                self.assertEqual(found[1].text, min(expected[1], key=place_of_plan).text, note)
        if found is not None and (expected is None or found[0] != expected[0]):
            self.assertGreater(found[1].size, size, note)
        if found is not None:
            before, promise, after, test, body, weights = parts
            bad = naive_broken(before, test, body, promise, after, weights, [found[1]]) if found[1].size <= 400 else None
            self.assertTrue(bad is None or bad[0] == found[0], note)
            self.assertTrue(bad is not None or found[1].size > 400, note)

    def test_runs_end_where_a_promise_holds(self):
        # [2]: if no part is broken, every run from the first lot ends in the last one.
        self.assertIsNone(promise_broken(self.two, "x != END", TURN, self.two, self.turned, (("x", 1),)))
        loop = loop_text("xy", "x != END", TURN)
        for plan in plans_up_to("xy", 7):
            if has_plan(self.two, plan):
                behind = plan_run(loop, plan, 400)
                self.assertEqual(behind.word, "done")
                self.assertTrue(has_plan(self.turned, behind.plan))
        far = Plan("x>1 -. y>1", (HUGE, HUGE), 0)
        self.assertTrue(has_plan(self.turned, far_run(loop, far).plan))

    def test_errors(self):
        names = "wxyz"
        lot, other = Lot(names, ()), Lot("xy", ())
        for value in odd_values(but=(Lot,)):
            self.asks("NotALot", value, promise_broken, value, None, None, None, None, None)
            self.asks("NotALot", value, promise_broken, lot, "w = x", "a = b", value, None, 3)
            self.asks("NotALot", value, promise_broken, lot, "w = x", "a = b", lot, value, 3)
        for value in NO_TESTS + list(odd_values()):
            self.asks("InvalidTest", value, promise_broken, lot, value, None, None, None, None)
        self.asks("UnknownName", "a", promise_broken, lot, "w = b and x = a", None, None, None, None)
        for value in NO_PROGRAMS + list(odd_values()):
            self.asks("InvalidProgram", value, promise_broken, lot, "w = x", value, None, None, None)
        self.tells("HasLoop", {}, promise_broken, lot, "w = x", "while a = b { none }", None, None, None)
        self.tells("OtherNames", {"names": names, "other": "xy"}, promise_broken, lot, "w = x", "a = b", other, None, 3)
        self.tells("OtherNames", {"names": names, "other": "xy"}, promise_broken, lot, "w = x", "a = b", lot, other, 3)
        for value in odd_values(but=(tuple, None)):
            self.points("InvalidWeights", None, promise_broken, lot, "w = x", "a = b", lot, lot, value)
        for value, index in WRONG_WEIGHTS:
            self.points("InvalidWeights", index, promise_broken, Lot("xy", ()), "x = y", "a = b; c = d", other, other, value)
        self.asks("TooMany", 6, promise_broken, lot, "w = x", "a = b", lot, lot, None)
        self.asks("TooMany", 5, promise_broken, lot, "w = x", "w = b", lot, lot, (("w", 1), ("z", 2)))
        self.assertIsNone(promise_broken(weights=(), after=other, promise=other, body="a = b", test="x = y", before=other))


class WideTest(unittest.TestCase, Asking):
    def test_told_lots(self):
        lot = Lot("xy", (box("x>1 -. y>1", "5 9", "3+7", "4+2"), box("x>1 -. y>1", "2", "30", "9"), box("x. y!", "3")))
        self.assertEqual(box_texts(wide(lot)), ["x. y! |  | 3+", "x>1 -. y>1 | 2+ , 3+ | 4+"])
        self.assertEqual(wide(Lot("xy", ())).boxes, ())
        self.assertEqual(wide(lot=Lot("abcd", ())).names, "abcd")
        self.assertTrue(is_same(wide(every("xy")), every("xy")))
        self.assertEqual(box_texts(wide(lot_of("chain x END 2 5", "x"))), ["x>1 -. | 2+ | 0+"])
        self.assertEqual(box_texts(wide(wide(lot))), box_texts(wide(lot)))
        self.assertFalse(wide(lot) == wide(lot))
        for value in odd_values(but=(Lot,)):
            self.asks("NotALot", value, wide, value)


class FoundPromiseTest(unittest.TestCase, Asking):
    def naively(self, before, test, body):
        """The found promise as [31] tells it, with lots."""
        promise = wide(before)
        while True:
            held = passing(promise, test)
            if not is_empty(failing(held, body)):
                return None
            grown = wide(either(promise, image(held, body)))
            if is_same(grown, promise):
                return promise
            promise = grown

    def test_told_promises(self):
        two = lot_of("chain x END 0+ * chain y END 0+", "xy")
        found = found_promise(lot_of("chain x END 3 * chain y END 1", "xy"), "x != END", TURN)
        self.assertEqual(box_texts(found), ["x. y>0 | 2+ | 0+", "x>1 -. y>1 | 1+ , 1+ | 0+"])
        self.assertIs(is_same(found, two), False)
        self.assertIs(lies_inside(lot_of("chain x END 3 * chain y END 1", "xy"), found), True)
        lists = lot_of("chain x END 4", "x")
        self.assertEqual(box_texts(found_promise(lists, "x != END", POP)), ["x. |  | 0+", "x>1 -. | 1+ | 0+"])
        self.assertEqual(box_texts(found_promise(lists, "x = END", POP)), ["x>1 -. | 4+ | 0+"])
        self.assertEqual(box_texts(found_promise(lists, "x != END", "x = next x")), ["x. |  | 1+", "x>1 -. | 1+ | 0+"])
        self.assertIsNone(found_promise(lists, "x != END", "x = next x; x = next x"))
        self.assertIsNone(found_promise(lists, "x = x", "x = next x"))
        self.assertEqual(found_promise(Lot("x", ()), "x = x", "drop x; drop x").boxes, ())
        far = Lot("x", (box("x>1 -.", "600+", "600+"),))
        self.assertEqual(box_texts(found_promise(far, "x != END", POP)), ["x. |  | 600+", "x>1 -. | 1+ | 600+"])

    def test_at_random(self):
        random = Random(311)
        many = {True: 0, False: 0}
        for names, rounds in (("x", 80), ("xy", 140), ("abc", 12)):
            told_shapes = some_shapes(random, names)
            for _ in range(rounds):
                before = some_lot(random, names, told_shapes, 2, 3)
                test, body = some_test(random, list(names)), some_straight(random, names, 4)
                found, expected = found_promise(before, test, body), self.naively(before, test, body)
                self.assertIs(found is None, expected is None, (test, body))
                many[found is None] += 1
                if found is not None:
                    self.assertEqual(box_texts(found), box_texts(expected), (test, body))
                    broken = promise_broken(before, test, body, found, every(names) if len(names) < 3 else found, None)
                    self.assertTrue(broken is None or broken[0] == "end")
        self.assertGreater(min(many.values()), 30)

    def test_errors(self):
        lot = Lot("wxyz", ())
        for value in odd_values(but=(Lot,)):
            self.asks("NotALot", value, found_promise, value, None, None)
        for value in NO_TESTS + list(odd_values()):
            self.asks("InvalidTest", value, found_promise, lot, value, None)
        self.asks("UnknownName", "a", found_promise, lot, "w = b or a = END", None)
        for value in NO_PROGRAMS + list(odd_values()):
            self.asks("InvalidProgram", value, found_promise, lot, "w = x", value)
        self.tells("HasLoop", {}, found_promise, lot, "w = x", "while a = b { none }")
        self.asks("TooMany", 6, found_promise, lot, "w = x", "a = b")
        self.assertEqual(found_promise(body="a = b", test="x = x", before=LOT).boxes, ())


class LoopTextTest(unittest.TestCase, Asking):
    def test_told_texts(self):
        for names, test, body, expected in (
                ("xy", "x != END", "t = next x; x = t", "while x != END { t = END; t = next x; x = t }"),
                ("x", "x != END", "x = next x", "while x != END { x = next x }"), ("x", "x = x", "none", "while x = x { none }"),
                ("y", "y != END or y = y", "u = y; t = u; if t = END { none } else { none }",
                 "while y != END or y = y { t = END; u = END; u = y; t = u; if t = END { none } else { none } }"),
                ("bd", "b = d", "c = a", "while b = d { a = END; c = END; c = a }"), ("abcd", "a = b", "none", "while a = b { none }")):
            self.assertEqual(loop_text(names, test, body), expected)
            self.assertTrue(is_program(expected))

    def test_one_turn_is_the_body_by_itself(self):
        random = Random(312)
        for _ in range(200):
            names = random.choice(["x", "xy", "abc"])
            body, test = some_straight(random, names, 6), some_test(random, list(names))
            loop = loop_text(names, test, body)
            for store in some_stores(random, names, 2):
                plan = plan_of(store)
                for _ in range(4):
                    if not plan_holds(test, plan):
                        break
                    behind = plan_run(body, plan, 400)
                    if behind.word == "fault":
                        self.assertEqual(plan_run(loop, plan_of(store), 400).word, "fault")
                        break
                    plan = behind.plan
                else:
                    continue
                if not plan_holds(test, plan):
                    told_run = run(loop, store, 400)
                    self.assertEqual((told_run.word, plan_of(told_run.store)), ("done", plan))

    def test_errors(self):
        for value in list(odd_values()) + ["yx", "xx", "abcde"]:
            self.asks("InvalidNames", value, loop_text, value, None, None)
        for value in NO_TESTS + list(odd_values()):
            self.asks("InvalidTest", value, loop_text, "wxyz", value, None)
        self.asks("UnknownName", "a", loop_text, "wxyz", "w = b or a = END", None)
        for value in NO_PROGRAMS + list(odd_values()):
            self.asks("InvalidProgram", value, loop_text, "wxyz", "w = x", value)
        self.tells("HasLoop", {}, loop_text, "wxyz", "w = x", "while a = b { none }")
        self.asks("TooMany", 6, loop_text, "wxyz", "w = x", "a = b" + "; a = b" * 29)
        long = "; ".join(["x = y"] * 29)
        self.assertEqual(loop_text("xy", "x = y", long), f"while x = y {{ {long} }}")
        self.asks("InvalidProgram", f"while x = y {{ {long}; x = y }}", loop_text, "xy", "x = y", f"{long}; x = y")
        # A helper is one statement more.
        short = "; ".join(["x = y"] * 27)
        self.assertTrue(is_program(loop_text("xy", "x = y", f"{short}; x = t")))
        self.asks("InvalidProgram", f"while x = y {{ t = END; {short}; x = t; x = t }}", loop_text, "xy", "x = y", f"{short}; x = t; x = t")
        deep = "if x = y { if x = y { if x = y { none } } }"
        self.assertTrue(is_program(loop_text("xy", "x = y", deep)))
        self.asks("InvalidProgram", f"while x = y {{ if x = y {{ {deep} }} }}", loop_text, "xy", "x = y", f"if x = y {{ {deep} }}")
        self.assertEqual(loop_text(body="none", test="x = x", names="x"), "while x = x { none }")


class WeightTest(unittest.TestCase, Asking):
    def test_way_cells(self):
        self.assertEqual(way_cells(Plan("x>1 ->1", (3, 2), 0), "x"), 5)
        self.assertEqual(way_cells(Plan("x>1 ->2 -. y>1", (HUGE, HUGE, 5), 7), "x"), 2 * HUGE)
        self.assertEqual(way_cells(Plan("x>1 ->2 -. y>1", (HUGE, 6, 5), 7), "y"), 11)
        self.assertEqual((way_cells(Plan("x. y!", (), 7), "x"), way_cells(Plan("x. y!", (), 7), "y")), (0, 0))
        random = Random(313)
        for store in some_stores(random, "axy", 200):
            for letter in "axy":
                self.assertEqual(way_cells(plan_of(store), letter), len(way(store, letter)))
        for value in odd_values(but=(Plan,)):
            self.asks("NotAPlan", value, way_cells, value, None)
        for value in list(odd_values()) + ["y"]:
            self.asks("UnknownName", value, way_cells, PLAN, value)
        self.assertEqual(way_cells(letter="x", plan=PLAN), 1)

    def test_weight_of(self):
        plan = Plan("x>1 ->2 -. y>1", (HUGE, 6, 5), 7)
        self.assertEqual(weight_of(plan, (("x", 9), ("y", 2))), 9 * (HUGE + 6) + 2 * 11)
        self.assertEqual((weight_of(plan, ()), weight_of(plan, (("y", 1),)), weight_of(plan, (("x", 0),))), (0, 11, 0))
        random = Random(314)
        for store in some_stores(random, "axy", 200):
            weights = tuple((letter, random.randint(0, 9)) for letter in "axy" if random.random() < 0.7)
            self.assertEqual(weight_of(plan_of(store), weights), sum(weight * len(way(store, letter)) for letter, weight in weights))
        for value in odd_values(but=(Plan,)):
            self.asks("NotAPlan", value, weight_of, value, None)
        for value in odd_values(but=(tuple,)):
            self.points("InvalidWeights", None, weight_of, plan, value)
        for value, index in WRONG_WEIGHTS:
            self.points("InvalidWeights", index, weight_of, plan, value)
        self.assertEqual(weight_of(weights=(("x", 3),), plan=PLAN), 3)


if __name__ == "__main__":
    unittest.main()
