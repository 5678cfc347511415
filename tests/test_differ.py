"""Whether two programs leave the same ([28])."""

import unittest
from random import Random

from arrowcells.differ import differing, leave_same
from arrowcells.lots import Lot, every, has_plan, lot_of
from arrowcells.plans import Plan, plan_of, store_of
from arrowcells.programs import has_loop, is_program, program_tree
from arrowcells.stores import Store, read_store
from tests.chosen import some_change, some_deed, some_lot, some_shapes, some_straight
from tests.helpers import LOT, STORE, Asking, box, odd_values, plans_up_to, some_stores
from tests.naive import Walk
from tests.naive import leave_same as naive_leave_same
from tests.test_programs import NO_PROGRAMS
from tests.test_runs import row_of

HUGE = 10 ** 30


def naively(program, other, store):
    """Whether two programs leave the same, and how many cells they make; None for more cells than one can try."""
    walks = [Walk(store.names, store.cells, program_tree(text), 400) for text in (program, other)]
    if max(len(walk.made) for walk in walks) > 6:
        return None
    return naive_leave_same(*walks)


def some_makers(random, names):
    """A program that makes many cells and ties them."""
    letters = list(names) + [letter for letter in "tuab" if letter not in names][:4 - len(names)]
    parts = []
    for _ in range(random.randint(2, 12)):
        first, second = random.choice(letters), random.choice(letters + ["END"])
        parts.append(random.choice([f"{first} = new", f"{first} = new", f"next {first} = {second}", f"{first} = {second}", f"drop {first}",
                                    some_deed(random, letters)]))
    return "; ".join(parts)


class LeaveSameTest(unittest.TestCase, Asking):
    def check(self, program, other, text, expected):
        """Both ways round, and as trying all matchings tells."""
        store = read_store(text)
        self.assertIs(leave_same(program, other, store), expected, (program, other))
        self.assertIs(leave_same(other, program, store), expected, (program, other))
        self.assertIs(naively(program, other, store), expected, (program, other))
        self.assertIs(leave_same(program, program, store), True)

    def test_faults(self):
        self.check("drop x", "next x = x", "x=0 | none", True)
        self.check("x = new; drop x; drop x", "drop x", "x=5 | none", True)
        self.check("drop x", "none", "x=0 | none", False)
        self.check("x = next x; x = next x", "x = END", "x=1 | 1>0", False)

    def test_old_places_stay_as_they_are(self):
        row = "x=1 y=0 | 1>2 2>3 3>0 7>7"
        self.check("x = next x; x = next x", "t = next x; x = next t", row, True)
        self.check("x = next x", "none", row, False)
        self.check("y = next x; next y = x", "t = next x; next t = x; y = t", row, True)
        self.check("next x = x", "next x = END", row, False)
        # A lost cell tells, too, and so does the arrow that is set as it was.
        self.check("t = next x; next t = END; x = END", "x = END", row, False)
        self.check("t = next x; next x = t", "none", row, True)
        self.check("t = next x; drop t", "t = next x; next x = END", row, False)
        self.check("t = next x; drop t; next x = END", "next x = END", row, False)
        self.check("drop x; x = END", "x = END", row, False)
        # Which of two equal rings is cut makes a difference.
        self.check("next x = END; x = END; y = END", "next y = END; x = END; y = END", "x=1 y=2 | 1>1 2>2", False)

    def test_new_places_are_matched(self):
        self.check("x = new; y = new", "y = new; x = new", "x=0 y=0 | none", True)
        self.check("x = new; y = new; next x = y", "y = new; x = new; next x = y", "x=0 y=0 | none", True)
        self.check("x = new; y = new; next x = y", "x = new; y = new; next y = x", "x=0 y=0 | none", False)
        self.check("x = new; y = x", "x = new; y = new", "x=0 y=0 | none", False)
        self.check("x = new; drop x; x = new", "x = new", "x=0 y=0 | none", True)
        self.check("x = new; drop x; y = x", "y = new; drop y; x = y", "x=0 y=0 | none", True)
        self.check("x = new; drop x; y = new; drop y", "y = new; drop y; x = y", "x=0 y=0 | none", False)
        # No longer a cell nor gone: it is not matched.
        self.check("t = new; drop t", "none", "x=0 | none", True)
        self.check("t = new; drop t; t = new", "t = new", "x=0 | none", True)
        self.check("t = new; u = new; next u = t; drop t", "t = new; next t = x", "x=0 | none", False)
        self.check("t = new; next t = x; t = END", "t = new; next t = END", "x=1 | 1>0", False)

    def test_an_old_place_is_not_a_new_one(self):
        # Both lead x to the place 1, which is gone: an old place there, a new one here.
        self.check("none", "x = END; x = new; drop x", "x=1 | none", False)
        self.check("t = x; x = new; drop x; x = t", "none", "x=1 | none", True)
        self.check("y = x", "x = END; y = x; x = new; drop x; y = x", "x=1 y=0 | none", False)
        self.check("x = new", "x = END; x = new", "x=1 | none", True)
        # The new cells have the places 2 and 1.
        self.check("y = x; x = new; y = x", "x = END; x = new; y = x", "x=1 y=0 | none", True)
        self.check("next x = x", "t = new; next x = t; drop t", "x=1 | 1>2", False)
        self.check("none", "next x = END; t = new; next x = t; drop t", "x=1 | 1>2", False)

    def test_lost_new_cells(self):
        empty = "x=0 | none"
        three = "t = new; u = new; v = new"
        self.check(three + "; next t = u; next u = v", three + "; next v = u; next u = t", empty, True)
        self.check(three + "; next t = u; next u = v", three + "; next t = u; next v = u", empty, False)
        self.check(three + "; next t = u; next u = v; next v = t", three + "; next v = u; next u = t; next t = v", empty, True)
        self.check(three + "; next t = t; next u = v; next v = u", three + "; next v = v; next t = u; next u = t", empty, True)
        self.check(three + "; next t = u; next u = v; next v = t", three + "; next t = t; next u = v; next v = u", empty, False)
        self.check(three + "; next t = u; next v = v; next u = v", three + "; next t = u; next v = v; next u = u", empty, False)
        self.check(three + "; next t = v; next u = v; drop v", three + "; next v = u; next t = u; drop u", empty, True)
        self.check(three + "; next t = v; next u = v; drop v", three + "; next v = u; next t = u", empty, False)
        self.check(three + "; next t = v; next u = v; drop v", "t = new; u = new", empty, False)
        self.check(three + "; next t = x; next u = x; next v = t", three + "; next t = x; next u = x; next v = u", "x=4 | 4>0", True)
        self.check(three + "; next t = x; next u = x; next v = t", three + "; next t = x; next u = x; next v = x", "x=4 | 4>0", False)
        self.check("t = new; u = next x; next t = u", "t = new; next t = x", "x=4 | 4>5 5>0", False)
        self.check("t = new; u = next x; next t = u; drop u; drop x", "t = new; next t = x; u = next x; drop u; drop x", "x=4 | 4>5 5>0",
                   False)
        # Two rings of three and one of six, on which each cell has the same neighbours.
        ring = "a = new; t = a" + "; u = new; next u = t; t = u" * 2 + "; next a = t"
        six = "a = new; t = a" + "; u = new; next u = t; t = u" * 5 + "; next a = t"
        self.check(ring + "; " + ring, six, empty, False)
        self.check(ring + "; " + ring, ring + "; " + ring, empty, True)

    def test_a_ring_with_lost_cells_before_it(self):
        # A ring of four new cells with one or two cells that lead to each other one.
        ring = "a = new; t = a" + "; u = new; next u = t; t = u" * 3 + "; next a = t"
        one = "; u = new; next u = t; t = next t"
        skip = "; t = next t"
        for first, second, expected in ((one + skip + one, skip + one + skip + one, True), (one + one, one + skip + one, False),
                                        (one + one, skip + one + one, True), (one + skip + skip + one, one + one, True)):
            store = read_store("x=0 | none")
            self.assertIs(leave_same(ring + first, ring + second, store), expected, (first, second))
            self.assertIs(naively(ring + first, ring + second, store), expected)

    def test_programs_at_random(self):
        random = Random(111)
        found = {}
        for number in range(1200):
            names = random.choice(["x", "xy", "axy", "ab"])
            program = some_makers(random, names) if number % 2 else some_straight(random, names)
            other = some_change(random, program, names) or program
            if is_program(program) and not has_loop(other):
                for store in some_stores(random, names, 3):
                    expected = naively(program, other, store)
                    if expected is not None:
                        self.assertIs(leave_same(program, other, store), expected, (program, other, store.text))
                        found[expected] = found.get(expected, 0) + 1
        self.assertGreater(min(found.values()), 500)

    def test_errors(self):
        for value in NO_PROGRAMS + list(odd_values()):
            self.asks("InvalidProgram", value, leave_same, value, None, None)
            self.asks("InvalidProgram", value, leave_same, "a = b; c = d", value, None)
        self.tells("HasLoop", {}, leave_same, "while x = y { none }", "?", None)
        self.tells("HasLoop", {}, leave_same, "a = b; c = d", "while x = y { none }", None)
        for value in odd_values(but=(Store,)):
            self.asks("NotAStore", value, leave_same, "a = b; c = d", "a = b; c = d", value)
        big = row_of(101)
        self.asks("TooMany", 5, leave_same, "a = b; c = d", "a = b; c = d; e = e", big)
        self.asks("TooMany", 101, leave_same, "a = b", "a = b; c = d; e = e", big)
        self.asks("TooMany", 6, leave_same, "a = b", "a = b; c = d; e = e", STORE)
        # Each program has its own helpers.
        self.assertIs(leave_same("a = b; b = c", "d = e; e = f", STORE), True)
        self.assertIs(leave_same(store=row_of(100), program="a = b", other="x = END"), False)


class DifferingTest(unittest.TestCase, Asking):
    def test_told_plans(self):
        lists = lot_of("chain x END 0+", "x")
        for program, other, lot, expected in (
                ("x = next x; x = next x", "t = next x; x = next t", lists, None), ("y = next x", "y = x", every("xy"), "x! y! | none | 0"),
                ("x = next x", "x = END", lists, "x. | none | 0"), ("x = next x", "x = END", lot_of("chain x END 1+", "x"), "x>1 -. | 2 | 0"),
                ("next x = END", "none", lot_of("chain x END 1+", "x"), "x>1 -. | 2 | 0"),
                ("t = next x; next x = t", "none", lot_of("chain x END 1+", "x"), None), ("drop x", "drop x", every("x"), None),
                ("t = x; x = END; drop t", "drop x; x = END", every("x"), None), ("t = new", "none", lists, "x. | none | 0"),
                ("t = next x; t = next t; t = next t", "none", lot_of("chain x END 2+2", "x"), "x>1 -. | 2 | 0"),
                ("t = next x; t = next t; t = next t", "none", lot_of("some h : chain x h 0+ * chain h h 1+", "x"), None),
                ("x = next x; x = next x; x = next x", "none", lot_of("chain x x 1 2+", "x"), "x>0 | 2 | 0"),
                ("x = next x; x = next x; x = next x", "none", lot_of("chain x x 3", "x"), None)):
            found = differing(program, other, lot)
            self.assertEqual(None if found is None else found.text, expected, (program, other))

    def test_far_plans(self):
        program = "; ".join(["x = next x"] * 30)
        lot = Lot("x", (box("x>0", "1 2 3 5 6 10 15 30 31+", "7"), box("x>1 ->1", "25", "5 1", "0")))
        self.assertEqual(differing(program, "none", Lot("x", lot.boxes[:1])).text, "x>0 | 31 | 7")
        self.assertEqual(differing(program, "none", lot).text, "x>1 ->1 | 25 1 | 0")
        self.assertIsNone(differing(program, "none", Lot("x", (box("x>0", "1 2 3 5 6 10 15 30", "7"),))))
        ends = Lot("x", (box("x>1 -.", "599 30+60", "0+"),))
        self.assertEqual(differing(program, "x = END", ends).text, "x>1 -. | 90 | 0")
        walk = "; ".join(["t = x"] + ["t = next t"] * 28 + ["x = t"])
        self.assertIsNone(differing(walk, "; ".join(["x = next x"] * 28), ends))
        self.assertEqual(differing(walk, "; ".join(["x = next x"] * 29), ends).text, "x>1 -. | 30 | 0")

    def test_plans_at_random(self):
        random = Random(112)
        found = {True: 0, False: 0}
        for names, many, size in (("x", 60, 8), ("xy", 100, 6), ("abc", 60, 5), ("abcd", 40, 5)):
            shapes = some_shapes(random, names)
            for number in range(many):
                program = some_makers(random, names) if number % 3 == 0 else some_straight(random, names)
                other = some_change(random, program, names)
                if other is None or not is_program(program):
                    continue
                told = random.sample(shapes, random.choice([1, 2, 3]))
                lot = some_lot(random, names, told, 3, 2)
                plan = differing(program, other, lot)
                plans = [one for one in plans_up_to(names, size, told) if has_plan(lot, one)]
                first = next((one for one in plans if not leave_same(program, other, store_of(one))), None)
                if plan is None or plan.size > size:
                    self.assertIsNone(first)
                else:
                    self.assertEqual(plan.text, first.text, (program, other))
                found[plan is None] += 1
        self.assertGreater(min(found.values()), 40)

    def test_it_holds_for_all_stores_of_a_plan(self):
        random = Random(113)
        for _ in range(300):
            program = some_straight(random, "xy")
            other = some_change(random, program, "xy") or program
            for store in some_stores(random, "xy", 3):
                plan = plan_of(store)
                sets = [(str(length)) for length in plan.lengths] + [str(plan.lost)]
                told = differing(program, other, Lot("xy", (box(plan.shape, *sets),)))
                self.assertIs(told is None, leave_same(program, other, store), (program, other, store.text))
                self.assertTrue(told is None or told == plan)

    def test_errors(self):
        for value in NO_PROGRAMS + list(odd_values()):
            self.asks("InvalidProgram", value, differing, value, None, None)
            self.asks("InvalidProgram", value, differing, "a = b; c = d", value, None)
        self.tells("HasLoop", {}, differing, "while x = y { none }", "?", None)
        self.tells("HasLoop", {}, differing, "a = b; c = d", "while x = y { none }", None)
        for value in odd_values(but=(Lot,)):
            self.asks("NotALot", value, differing, "a = b; c = d", "a = b; c = d", value)
        self.asks("TooMany", 5, differing, "a = b; c = d", "a = b; c = d; e = e", LOT)
        self.asks("TooMany", 6, differing, "a = b", "a = b; c = d; e = e", LOT)
        self.assertIsNone(differing(lot=LOT, program="a = b", other="c = d"))
        self.assertIsNone(differing("a = b", "c = d", Lot("abcd", ())))


if __name__ == "__main__":
    unittest.main()
