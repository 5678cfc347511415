"""Far runs ([29])."""

import unittest
from random import Random

from arrowcells.errors import Restless
from arrowcells.farruns import FarRun, far_run, turns
from arrowcells.planruns import plan_done, plan_run
from arrowcells.plans import Plan, drawn, plan_of, store_of
from arrowcells.programs import is_plain, is_program, program_tree
from arrowcells.shapes import lengths_number, shapes
from arrowcells.stores import Store
from arrowcells.walkers import meet
from tests.chosen import some_program, some_test
from tests.helpers import PLAN, Asking, odd_values, raised, small_plans
from tests.naive import CourseWalk
from tests.test_programs import NO_PROGRAMS

HUGE = 10 ** 30
TURN = "while x != END { t = next x; next x = y; y = x; x = t }"
ALONG = "while x != END { x = next x }"
# In each turn t is another thing than in the turn before it.
CHANGING = "while x != END { x = next x; if t = END { t = new } else { t = END } }"
CHASE = "x = next x; y = next y; y = next y; while x != y { x = next x; y = next y; y = next y }"


def shape_of(names, cells):
    return drawn(names, dict(cells))[0]


def seen(program, plan):
    """All that is told of a far run, or the number of the loop at which it is restless."""
    try:
        told = far_run(program, plan)
    except Restless as error:
        return "restless", error.given
    return told.word, told.plan and told.plan.text, told.steps, told.deed, turns(program, plan)


def naively(program, plan, most):
    """The same, by doing all steps; the word is `long` if there are more than so many."""
    store = store_of(plan)
    walk = CourseWalk(store.names, store.cells, program_tree(program), most, shape_of)
    if walk.restless is not None:
        return "restless", walk.restless
    behind = plan_of(Store(walk.names, walk.cells)).text if walk.word != "long" else None
    return walk.word, behind, walk.steps, walk.deed, tuple(walk.turns)


def some_body(random, letters):
    """The body of a loop that seldom fails."""
    parts = []
    for _ in range(random.randint(1, 4)):
        a, b = random.choice(letters), random.choice(letters)
        parts.append(random.choice([
            f"if {a} != END {{ {b} = next {a} }}", f"if {a} != END {{ {a} = next {a} }}", f"{a} = {b}", f"{a} = new",
            f"if {a} != END {{ {a} = next {a} }} else {{ {a} = {b} }}", f"if {a} = END {{ {a} = {b} }}",
            f"if {a} != END {{ next {a} = {b} }}", f"if {a} = {b} {{ {a} = new }} else {{ {a} = END }}", f"{a} = next {a}"]))
    return "; ".join(parts)


class FarRunTest(unittest.TestCase, Asking):
    def check(self, program, plan, word, text, steps, deed, many):
        """All that is told of a far run; the texts of plans are told with h for HUGE."""
        told = far_run(program, plan)
        self.assertEqual((told.word, told.plan and told.plan.text, told.steps, told.deed),
                         (word, text and text.format(h=HUGE, d=2 * HUGE, m=HUGE - 1, p=HUGE + 1), steps, deed), program)
        self.assertEqual(turns(program, plan), many, program)

    def test_a_far_run_tells_all(self):
        plan = Plan("x>1 -. y>1", (HUGE, 5), 2)
        told = far_run(TURN, plan)
        self.assertIsInstance(told, FarRun)
        self.assertEqual((told.word, told.plan.text, told.steps, told.deed),
                         ("done", f"x. y>0 | {HUGE + 5} | 2", 5 * HUGE + 1, None))
        self.assertEqual(turns(TURN, plan), (HUGE,))
        self.assertTrue(told == told and not told != told and told)
        self.assertFalse(told == far_run(TURN, plan) or told == 1)
        # The names of the plan behind are those of the plan before; helpers are left out.
        self.assertEqual((told.plan.letters, far_run("t = x", PLAN).plan), ("xy", PLAN))

    def test_lists(self):
        one = Plan("x>1 -.", (HUGE,), 7)
        self.check(ALONG, one, "done", f"x. | none | {HUGE + 7}", 2 * HUGE + 1, None, (HUGE,))
        self.check("while x != END { t = next x; drop x; x = t }", one, "done", "x. | none | 7", 4 * HUGE + 1, None, (HUGE,))
        self.check("while x != END { x = next x; if x != END { x = next x } }", one, "done", f"x. | none | {HUGE + 7}",
                   2 * HUGE + 1, None, (HUGE // 2,))
        self.check("while x != END { x = next x; x = next x; x = next x }", one, "fault", f"x. | none | {HUGE + 7}",
                   4 * (HUGE // 3) + 2, 1, (HUGE // 3 + 1,))
        self.check("none", one, "done", "x>1 -. | {h} | 7", 0, None, ())
        self.check("drop x; drop x", one, "fault", f"x! | none | {HUGE + 6}", 1, 1, ())
        self.check("while x = END { drop x }", one, "done", "x>1 -. | {h} | 7", 1, None, (0,))

    def test_two_lists(self):
        two = Plan("x>1 -. y>1", (HUGE, 10 ** 20), 0)
        both = "while x != END and y != END { x = next x; y = next y }"
        self.check(both, two, "done", f"x>1 y. | {HUGE - 10 ** 20} | {2 * 10 ** 20}", 3 * 10 ** 20 + 1, None, (10 ** 20,))
        self.check("while x != END or y != END { x = next x; y = next y }", two, "fault",
                   f"x>1 y. | {HUGE - 10 ** 20 - 1} | {2 * 10 ** 20 + 1}", 3 * 10 ** 20 + 2, 1, (10 ** 20 + 1,))
        # Each turn hands the lists round, so that a length is as before after two turns only.
        swap = "while y != END { t = x; x = next y; y = t }"
        self.check(swap, Plan("x>1 -. y>1", (HUGE, HUGE), 0), "done", "xy. | none | {d}", 8 * HUGE + 1, None, (2 * HUGE,))
        self.check(swap, Plan("x>1 -. y>1", (HUGE, 3), 0), "done", f"x>1 y. | {HUGE - 3} | 6", 25, None, (6,))
        self.check(swap, Plan("x>1 -. y>1", (3, HUGE), 0), "done", f"x>1 y. | {HUGE - 4} | 7", 29, None, (7,))

    def test_a_second_loop_behind_a_first_one(self):
        plan = Plan("x>1 -.", (HUGE,), 0)
        there = "y = END; while x != END { t = new; next t = y; y = t; x = next x }; "
        self.check(there + "while y != END { y = next y }", plan, "done", "x. | none | {d}", 7 * HUGE + 3, None, (HUGE, HUGE))
        self.check(there + "while y != x { t = next y; drop y; y = t; x = new }", plan, "fault",
                   f"x>1 -. | 1 | {2 * HUGE - 1}", 5 * HUGE + 2 + 5 * HUGE + 1, 5, (HUGE, HUGE + 1))
        self.check(f"{ALONG}; {ALONG}; if x = END {{ x = new; {ALONG} }} else {{ {ALONG}; drop x }}; while x != END {{ drop x }}",
                   Plan("x>1 -.", (5,), 0), "done", "x. | none | 6", 11 + 1 + 1 + 1 + 3 + 1, None, (5, 0, 1, 0, 0))
        self.check("if x = END { while x != x { none } } else { while x != END { x = next x } }; drop x", plan, "fault",
                   "x. | none | {h}", 2 * HUGE + 2, 1, (0, HUGE))

    def test_rings(self):
        self.check(ALONG, Plan("x>0", (HUGE,), 0), "endless", None, None, None, None)
        self.check(ALONG, Plan("x>1 ->1", (HUGE, 3), 0), "endless", None, None, None, None)
        self.check("while x != y { x = next x }", Plan("x>1 y>0", (HUGE, HUGE), 0), "done", "xy>0 | {d} | 0", 2 * HUGE + 1,
                   None, (HUGE,))
        self.check("while x != y { t = next x; drop x; x = t }", Plan("x>1 y>0", (HUGE, HUGE), 4), "done",
                   "xy>1 -! | {h} | 4", 4 * HUGE + 1, None, (HUGE,))
        # A ring is cut one cell a turn, until it leads to itself.
        cut = "y = next x; while y != x { y = next y; next x = y }"
        self.check(cut, Plan("x>0 y.", (HUGE,), 0), "done", "xy>0 | 1 | {m}", 3 * HUGE - 1, None, (HUGE - 1,))

    def test_endless_runs(self):
        for program, plan in (("while x = x { none }", PLAN), ("while x = x { t = new }", PLAN),
                              ("while x != END { y = x }", Plan("x>1 y.", (HUGE,), 0)), ("while x = END { drop y }", None),
                              (f"{ALONG}; while x = END {{ none }}; drop x", Plan("x>1 -.", (HUGE,), 0)),
                              ("while x != y { t = new; next t = x; x = t }", Plan("x>1 y.", (1,), 0)),
                              ("if x != END { while x != END { next x = x } } else { none }", PLAN)):
            if plan is None:
                plan = Plan("x. y>0", (1,), 0)
                self.assertEqual(seen(program, plan), ("fault", "x. y! | none | 0", 3, 0, (2,)))
            else:
                self.check(program, plan, "endless", None, None, None, None)

    def test_greater_lengths_than_plans_accept(self):
        plan = plan_done(Plan("x>1 y>2 -.", (HUGE, HUGE), HUGE), ("copy", "y", "END"))
        self.assertEqual(plan.lengths, (2 * HUGE,))
        self.check(ALONG, plan, "done", f"xy. | none | {3 * HUGE}", 4 * HUGE + 1, None, (2 * HUGE,))
        again = far_run(TURN, far_run(ALONG, plan).plan)
        self.assertEqual((again.steps, again.plan.lost), (1, 3 * HUGE))

    def test_restless_runs(self):
        for length, expected in ((1, 1), (2, 2), (60, 60), (61, 61), (62, None), (63, None), (HUGE, None)):
            plan = Plan("x>1 -.", (length,), 0)
            if expected is None:
                self.assertEqual(seen(CHANGING, plan), ("restless", 0))
                self.assertEqual(raised(turns, CHANGING, plan), ("Restless", {"given": 0}))
            else:
                self.assertEqual(turns(CHANGING, plan), (expected,))
        # The first such loop is told, although another one comes behind, and whatever comes behind.
        long, short = Plan("x>1 -. y>1", (62, 61), 0), Plan("x>1 -. y>1", (61, 62), 0)
        other = CHANGING.replace("x ", "y ").replace("next x;", "next y;")
        self.assertEqual(seen(f"{CHANGING}; {other}", long), ("restless", 0))
        self.assertEqual(seen(f"{CHANGING}; {other}", short), ("restless", 1))
        self.assertEqual(seen(f"{other}; {CHANGING}", long), ("restless", 1))
        self.assertEqual(seen(f"if x = y {{ {other} }} else {{ {CHANGING} }}; drop x; drop x", long), ("restless", 1))
        self.assertEqual(seen(f"{CHANGING}; while y = y {{ none }}", long), ("restless", 0))
        self.assertEqual(seen("while x = x { if t = END { t = new } else { t = END } }", PLAN), ("restless", 0))

    def test_lengths_of_one_that_make_no_other_course(self):
        # Two rings are handed round; where x goes on, both lengths 1 and 2 lead to the same shapes.
        rings = "t = x; x = y; y = t; x = next x"
        self.check(f"while x != END {{ {rings} }}", Plan("x>0 y>1", (1, 2), 0), "endless", None, None, None, None)
        self.check(f"while u != END {{ {rings}; u = next u }}", Plan("u>1 -. x>2 y>3", (HUGE, 1, 2), 0), "done", "u. x>1 y>2 | 1 2 | {h}",
                   6 * HUGE + 1, None, (HUGE,))
        self.check(f"while u != END {{ {rings}; u = next u }}", Plan("u>1 -. x>2 y>3", (HUGE - 1, 1, 2), 0), "done", "u. x>1 y>2 | 2 1 | {m}",
                   6 * HUGE - 5, None, (HUGE - 1,))

    def test_courses_that_differ_within_a_turn_alone(self):
        # The shape at the test is always the same, but t comes to another place on the one ring than on the other.
        program = "while u != END { t = x; x = y; y = t; t = next x; t = END; u = next u }"
        for length, expected in ((61, ("done", "u. x>1 y>2 | 2 1 | 61", 61 * 7 + 1, None, (61,))), (62, ("restless", 0)), (HUGE, ("restless", 0))):
            self.assertEqual(seen(program, Plan("u>1 -. x>2 y>3", (length, 1, 2), 0)), expected)
        self.assertEqual(seen(program, Plan("u>1 -. x>2 y>3", (HUGE, 3, 2), 0))[4], (HUGE,))

    def test_numbers_of_deeds_and_loops(self):
        self.assertEqual(seen("if x = END { x = x; x = x } else { drop x; drop x }", PLAN), ("fault", "x! | none | 0", 2, 3, ()))
        both = "if x = END { while x = x { x = x; x = x }; x = x } else { while x != END { x = next x; if x = END { drop x; drop x } } }"
        self.assertEqual(seen(f"while x = END {{ x = x }}; {both}; x = x", Plan("x>1 -.", (4,), 0)), ("fault", "x. | none | 4", 14, 5, (0, 0, 4)))
        self.assertEqual(seen("while x != END { if x = END { x = x } else { x = next x; if x = END { x = x; x = next x } } }; x = x", PLAN)[3], 3)

    def test_a_turn_that_fails_is_not_compared(self):
        program = "while x = x { x = next x; if t = END { t = new } else { t = END } }"
        # In the last turn the deed fails; the turns before it have one change less than there are turns.
        for length, expected in ((60, ("fault", 60)), (61, ("fault", 61)), (62, ("restless", None))):
            found = seen(program, Plan("x>1 -!", (length,), 0))
            self.assertEqual(found[0], expected[0])
            if found[0] == "fault":
                self.assertEqual((found[3], found[4]), (0, (length + 1,)))
        late = "while x = x { if t = END { t = new } else { t = END }; x = next x }"
        self.assertEqual(seen(late, Plan("x>1 -!", (61,), 0))[0], "fault")
        self.assertEqual(seen(late, Plan("x>1 -!", (62,), 0)), ("restless", 0))

    def test_changes_need_not_come_one_behind_the_other(self):
        # Each time round the ring the walk comes to the knot of y once, where the course is another one.
        program = "while y != END { x = next x; t = next t; if t = END { y = END } }"
        self.assertEqual(seen(program, Plan("t>1 -. x>3 y>2", (HUGE, 1, 1), 0))[0], "restless")
        told = seen(program, Plan("t>1 -. x>3 y>2", (10 ** 20, 10 ** 19, 10 ** 19), 0))
        self.assertEqual((told[0], told[4]), ("done", (10 ** 20,)))

    def test_small_plans(self):
        programs = [TURN, ALONG, CHANGING, CHASE, "while x != y { x = next x }", "while y != END { y = next y; x = y }",
                    "while x != END and y != END { t = next x; next x = y; x = t; y = next y }",
                    "while x != END { drop x; x = y }; while y != x { y = next y; next x = y }",
                    "x = next x; while x != y { u = next y; next y = x; x = u; if x = END { x = y } }"]
        words = {}
        for names in ("x", "xy"):
            for plan in small_plans(names, 2 if names == "xy" else 6, 1):
                for program in programs:
                    told = seen(program, plan)
                    expected = plan_run(program, plan, 300)
                    words[told[0]] = words.get(told[0], 0) + 1
                    if expected.word == "long":
                        self.assertIn(told[0], ("endless", "restless"), (program, plan.text))
                    else:
                        self.assertEqual(told[:4], (expected.word, expected.plan.text, expected.steps, expected.deed))
        self.assertGreater(min(words.values()), 40)

    def test_at_random(self):
        random = Random(291)
        words, far = {}, 0
        told_shapes = {names: [shape for shape in shapes(names)] for names in ("x", "xy")}
        while sum(words.values()) < 800:
            names = random.choice(["x", "xy", "xy"])
            letters = list(names) + list("tu")[:random.randint(0, 2)]
            bodies = [some_body(random, letters) if random.random() < 0.7 else some_program(random, letters, 4, 2, False)
                      for _ in range(random.randint(1, 2))]
            program = "; ".join(f"while {some_test(random, letters)} {{ {body} }}" for body in bodies)
            if not is_program(program) or not is_plain(program):
                continue
            shape = random.choice(told_shapes[names])
            lengths = tuple(random.choice([1, 1, 2, 3, 4, 7, 12, 30, 63, 64, 90]) for _ in range(lengths_number(shape)))
            plan = Plan(shape, lengths, random.randint(0, 2))
            told = seen(program, plan)
            expected = naively(program, plan, 600)
            words[told[0]] = words.get(told[0], 0) + 1
            if expected[0] == "long":
                self.assertTrue(told[0] in ("endless", "restless") or told[2] > 600, (program, plan.text))
                if told[0] != "endless":
                    expected = naively(program, plan, 900)
            if expected[0] != "long":
                self.assertEqual(told, expected, (program, plan.text))
                far += told[0] != "restless" and max(told[4]) > 10
        self.assertGreater(min(words.values()), 10)
        self.assertGreater(far, 8)

    def test_on_rings_at_random(self):
        # All ways come back, so that hardly a deed fails; a list from u tells how many turns there are.
        random = Random(292)
        words = {}
        while sum(words.values()) < 500:
            names = random.choice(["x", "xy", "txy"])
            parts = []
            for _ in range(random.randint(1, 6)):
                a, b = random.choice("xyt"), random.choice("xyt")
                parts.append(random.choice([
                    f"{a} = {b}", f"{a} = next {b}", f"{a} = next {b}", f"next {a} = {b}", f"{a} = new; next {a} = {b}",
                    f"if {a} = {b} {{ {a} = next {a} }}", f"if {a} != {b} {{ {a} = next {b} }} else {{ next {a} = {a} }}"]))
            program = f"while u != END {{ {'; '.join(parts)}; u = next u }}"
            cells = random.sample(range(1, 20), random.randint(1, 6))
            leads = [(letter, random.choice(cells)) for letter in names] + [("u", 100)]
            many = random.choice([20, 61, 62, 70])
            arrows = [(cell, random.choice(cells)) for cell in cells] + [(cell, cell + 1) for cell in range(100, 99 + many)]
            plan = plan_of(Store(tuple(sorted(leads)), tuple(sorted(arrows + [(99 + many, 0)]))))
            told = seen(program, plan)
            words[told[0]] = words.get(told[0], 0) + 1
            self.assertEqual(told, naively(program, plan, 5000), (program, plan.text))
        self.assertGreater(min(words["done"], words["fault"]), 100)

    def test_walkers_on_tracks(self):
        # [36]: the chase ends when the walkers first meet.
        for tail, ring in ((0, 1), (0, 5), (3, 4), (7, 7), (10, 3), (12, 1), (1, 40)):
            plan = Plan("xy>1 ->1", (tail, ring), 0) if tail else Plan("xy>0", (ring,), 0)
            self.assertEqual(turns(CHASE, plan), (meet(tail, ring, 1, 2, 0) - 1,))
        for tail, ring in ((HUGE, HUGE), (5, HUGE), (HUGE, HUGE // 7 + 3), (10 ** 20 + 1, HUGE - 1)):
            self.assertEqual(turns(CHASE, Plan("xy>1 ->1", (tail, ring), 0)), (meet(tail, ring, 1, 2, 0) - 1,))
        self.assertEqual(seen(CHASE, Plan("xy>1 ->1", (HUGE, 3), 0)), ("restless", 0))

    def test_errors(self):
        for value in NO_PROGRAMS + list(odd_values()):
            self.asks("InvalidProgram", value, far_run, value, None)
            self.asks("InvalidProgram", value, turns, value, None)
        inner = "while x != END { if x = y { while x = y { none } } }"
        for action in (far_run, turns):
            self.tells("HasInnerLoop", {}, action, inner, None)
            for value in odd_values(but=(Plan,)):
                self.asks("NotAPlan", value, action, "a = b; c = d", value)
            self.asks("TooMany", 5, action, "a = b; c = d", PLAN)
            # Letters of both are counted once, and the number of letters is asked before the run is done.
            self.asks("TooMany", 5, action, f"{CHANGING}; a = b; b = c", Plan("x>1 -.", (HUGE,), 0))
            self.asks("Restless", 0, action, f"{CHANGING}; a = b", Plan("x>1 -.", (HUGE,), 0))
        self.assertEqual(far_run(plan=PLAN, program="a = b; b = c").word, "done")
        self.assertEqual(turns(plan=PLAN, program=ALONG), (1,))
        self.assertEqual(far_run("while x = END { none }; while x = END { none }", PLAN).steps, 2)


if __name__ == "__main__":
    unittest.main()
