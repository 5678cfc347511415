"""Images of lots, and the plans of a lot for which a program fails ([27])."""

import unittest
from random import Random

from arrowcells.images import failing, image
from arrowcells.inside import is_same, shapes_in
from arrowcells.lots import Lot, every, has_plan, lot_of
from arrowcells.lotsums import either
from arrowcells.planruns import plan_run
from arrowcells.plans import Plan
from arrowcells.programs import deeds_of
from tests.chosen import some_lot, some_shapes, some_straight
from tests.helpers import LOT, Asking, box, box_texts, odd_values, plans_up_to
from tests.test_programs import NO_PROGRAMS

HUGE = 10 ** 30
POP = "t = next x; drop x; x = t"
PUSH = "t = new; next t = x; x = t"


def lot_with(*boxes):
    """The lot with these boxes."""
    names = "".join(sorted(sign for sign in boxes[0][0] if sign.islower()))
    return Lot(names, tuple(boxes))


class ImageTest(unittest.TestCase, Asking):
    def told(self, lot, program):
        """The images of a lot as texts."""
        return box_texts(image(lot, program))

    def test_sets_are_carried_along(self):
        lists = lot_with(box("x>1 -.", "3+2", "0 4"))
        self.assertEqual(self.told(lists, "none"), ["x>1 -. | 3+2 | 0 4"])
        self.assertEqual(self.told(lists, POP), ["x>1 -. | 2+2 | 0 4"])
        self.assertEqual(self.told(lists, PUSH), ["x>1 -. | 4+2 | 0 4"])
        self.assertEqual(self.told(lists, "x = next x"), ["x>1 -. | 2+2 | 1 5"])
        self.assertEqual(self.told(lists, "x = END"), ["x. |  | 3+2"])
        self.assertEqual(self.told(lists, "drop x"), ["x! |  | 2+2"])
        self.assertEqual(self.told(lists, "next x = x"), ["x>0 | 1 | 2+2"])
        self.assertEqual(self.told(lists, "; ".join([POP] * 3)), ["x. |  | 0 4", "x>1 -. | 2+2 | 0 4"])
        self.assertEqual(self.told(lists, "; ".join([POP] * 4)), ["x>1 -. | 1+2 | 0 4"])
        self.assertEqual(self.told(lot_of("chain x END 0+", "x"), "x = new"), ["x>1 -. | 1 | 0+"])

    def test_rings(self):
        rings = lot_with(box("x>0", "1 4+3", "0"))
        self.assertEqual(self.told(rings, "x = next x"), ["x>0 | 1+3 | 0"])
        # The ring is cut behind its second cell.
        self.assertEqual(self.told(rings, "t = next x; next t = END"), ["x>1 -. | 1 | 0", "x>1 -. | 2 | 2+3"])
        self.assertEqual(self.told(rings, "t = next x; next x = END; x = t"), ["x>1 -. | 1+3 | 0"])
        self.assertEqual(self.told(rings, "t = next x; drop x; x = t"), ["x! |  | 0", "x>1 -! | 3+3 | 0"])
        tails = lot_with(box("x>1 ->1", "1+2", "2+3", "0"))
        self.assertEqual(self.told(tails, "x = next x"), ["x>0 | 2+3 | 1", "x>1 ->1 | 2+2 , 2+3 | 1"])

    def test_stretches_are_joined(self):
        lot = lot_with(box("x>1 y>2 -.", "1 3", "2+3", "0+5"))
        self.assertEqual(self.told(lot, "y = END"), ["x>1 y. | 3+3 5+3 | 0+5"])
        self.assertEqual(self.told(lot, "x = END; y = END"), ["xy. |  | 3 5 6 8+"])
        shared = lot_with(box("x>1 ->2 -. y>1", "1+2", "2", "5 6", "0"))
        self.assertEqual(self.told(shared, "y = x"), ["xy>1 -. | 3+2 | 5 6"])
        self.assertEqual(self.told(shared, "x = END"), ["x. y>0 | 7 8 | 1+2"])

    def test_helpers_and_lost_cells(self):
        lists = lot_with(box("x>1 -.", "1+", "0"))
        # Only a helper comes to these cells, and to a gone place, when the run is over.
        self.assertEqual(self.told(lists, "t = x; x = END; t = next t"), ["x. |  | 1+"])
        self.assertEqual(self.told(lists, "t = new; u = new; next t = u"), ["x>1 -. | 1+ | 2"])
        self.assertEqual(self.told(lists, "t = x; x = END; drop t"), ["x. |  | 0+"])
        self.assertEqual(self.told(lists, "t = next x; drop t"), ["x>1 -! | 1 | 0+"])
        self.assertEqual(self.told(lists, "t = new; drop t"), ["x>1 -. | 1+ | 0"])
        self.assertEqual(self.told(lists, "t = new; drop t; next x = t"), ["x>1 -! | 1 | 0+"])
        self.assertEqual(self.told(lot_with(box("x! y!", "1")), "x = y"), ["xy! |  | 1"])

    def test_failing_plans_are_left_out(self):
        lists = lot_of("chain x END 0+", "x")
        self.assertEqual(self.told(lists, "x = next x; x = next x"), ["x. |  | 2", "x>1 -. | 1+ | 2"])
        self.assertEqual(self.told(lists, "drop x; drop x"), [])
        self.assertEqual(self.told(lists, "if x = END { x = new } else { x = next x }"),
                         ["x. |  | 1", "x>1 -. | 1 | 0 1", "x>1 -. | 2+ | 1"])
        self.assertEqual(image(Lot("abcd", ()), "drop a").boxes, ())

    def test_images_at_random(self):
        random = Random(81)
        self.check_at_random(random, "x", 60, 9)
        self.check_at_random(random, "xy", 110, 7)

    def test_images_over_three_and_four_names(self):
        random = Random(82)
        self.check_at_random(random, "abc", 60, 6)
        self.check_at_random(random, "abcd", 50, 6)

    def check_at_random(self, random, names, many, size):
        """Images and failing plans of lots, compared with runs on all plans up to a size."""
        found = {"done": 0, "fault": 0}
        shapes = some_shapes(random, names)
        for _ in range(many):
            told = random.sample(shapes, random.choice([1, 2, 3]))
            lot, program = some_lot(random, names, told, 3, 2), some_straight(random, names)
            behind, fails, images = image(lot, program), failing(lot, program), {}
            self.assertEqual((behind.names, fails.names), (names, names))
            for plan in plans_up_to(names, size, told):
                run = plan_run(program, plan, 400)
                self.assertIs(has_plan(fails, plan), has_plan(lot, plan) and run.word == "fault", (program, plan.text))
                if has_plan(lot, plan):
                    found[run.word] += 1
                    if run.word == "done":
                        images[run.plan.text] = True
                        self.assertTrue(has_plan(behind, run.plan), (program, plan.text))
            # A run takes away as many cells as it drops, so all plans that lead to these ones have been gone through.
            drops = [deed[0] for deed in deeds_of(program)].count("drop")
            for plan in plans_up_to(names, size - drops, shapes_in(behind)):
                self.assertIs(has_plan(behind, plan), plan.text in images, (program, plan.text))
        self.assertGreater(min(found.values()), 100)

    def test_steps_and_great_starts(self):
        random = Random(83)
        lot = Lot("xy", (box("x>1 ->2 -. y>1", "40+12", "1+4", "3 200+6", "0+10"), box("x>1 y>1", "2+3", "100+4", "1")))
        for program in ("y = END; x = next x; x = next x", "x = y; y = next y; y = new", "next x = y; x = END", "drop y; y = next x",
                        "y = next y; y = next y; x = END", "t = y; y = next x; if x != y { next y = t }; x = t"):
            behind, fails = image(lot, program), failing(lot, program)
            for _ in range(60):
                plan = some_plan_of(random, lot)
                run = plan_run(program, plan, 400)
                self.assertIs(has_plan(fails, plan), run.word == "fault")
                self.assertTrue(run.word == "fault" or has_plan(behind, run.plan), (program, plan.text))
        # All sums of 3 or 9 and 99, 103 .., and no other ones.
        shared = Lot("xy", (box("x>1 ->2 -. y>1", "40+12", "3 9", "100+4", "0+10"),))
        self.assertEqual(self.told(shared, "x = END; y = next y"),
                         ["x. y>0 | 102 106+2 | 41 51 53 61 63 65 71 73 75 77 81+2"])

    def test_far_plans(self):
        lot = Lot("x", (box("x>1 -.", "2+5", "1+2"),))
        behind = image(lot, "; ".join(["x = next x"] * 28))
        self.assertTrue(has_plan(behind, Plan("x>1 -.", (HUGE + 2 - 28,), 29)))
        for less in range(40):
            run = plan_run("; ".join(["x = next x"] * 28), Plan("x>1 -.", (HUGE - less,), 1), 400)
            self.assertIs(has_plan(behind, run.plan), (HUGE - less) % 5 == 2)
            self.assertFalse(has_plan(behind, Plan("x>1 -.", run.plan.lengths, 28)))

    def test_errors(self):
        for action in (image, failing):
            for value in odd_values(but=(Lot,)):
                self.asks("NotALot", value, action, value, None)
            for value in NO_PROGRAMS + list(odd_values()):
                self.asks("InvalidProgram", value, action, LOT, value)
            four = Lot("abcd", ())
            self.tells("HasLoop", {}, action, four, "while x = y { none }")
            self.tells("HasLoop", {}, action, four, "if x = y { while x = y { none } }")
            self.asks("TooMany", 6, action, four, "x = y")
            self.asks("TooMany", 5, action, LOT, "a = b; if c = d { none }")
            self.assertEqual(action(lot=four, program="a = b").names, "abcd")


class FailingTest(unittest.TestCase):
    def test_told_lots(self):
        lists = lot_of("chain x END 0+", "x")
        self.assertEqual(box_texts(failing(lists, POP)), ["x. |  | 0"])
        self.assertEqual(box_texts(failing(lists, "; ".join([POP] * 3))), ["x. |  | 0", "x>1 -. | 1 2 | 0"])
        self.assertEqual(box_texts(failing(lists, "none")), [])
        self.assertTrue(is_same(failing(every("xy"), "next x = y"), lot_of("( gone x * rest ) or ( x = END * rest )", "xy")))
        fails = failing(every("xy"), "x = next x; y = next x")
        self.assertTrue(is_same(fails, lot_of("( x = END * rest ) or ( gone x * rest ) or ( chain x END 1 * rest ) or"
                                              " ( some h : chain x h 1 * gone h * rest )", "xy")))
        self.assertEqual(box_texts(failing(either(lists, lot_with(box("x>0", "1", "5"))), "t = next x; drop x; drop t")),
                         ["x. |  | 0", "x>0 | 1 | 5", "x>1 -. | 1 | 0"])


def some_plan_of(random, lot):
    """A plan of a lot, whose numbers are among the first ones of their sets."""
    shape, lengths, lost = random.choice(lot.boxes)
    row = [random.choice(told.members(random.choice([3, 40]))) for told in lengths + (lost,)]
    return Plan(shape, tuple(row[:-1]), row[-1])


if __name__ == "__main__":
    unittest.main()
