"""Knots and shapes ([10], [11], [12])."""

import unittest

from arrowcells.plans import plan_of
from arrowcells.shapes import (is_shape, knot_at, knot_words, knots_number, lengths_number, letters_of, shapes,
                               stretches_on_way)
from arrowcells.stores import read_store
from tests.helpers import Asking, odd_values, small_stores

ONE = ("x!", "x.", "x>0", "x>1 -!", "x>1 -.", "x>1 ->1")
NO_SHAPES = [
    "", " ", "x", "x ", " x.", "x. ", "x.  y.", "-.", "-!", "->0", "x?", "x>", "x>x", "x>-1", "x>01 -.", "x>1",
    "x>2 - -.", "x>1 - -.", "x.0", "x!0", ".", "!", ">0", "X.", "x.!", "xx.", "yx.", "x. x.", "x. xy!", "y. x.",
    # What no name leads to, in one way or another.
    "x. -.", "x. ->0", "x>0 -.", "x>0 ->1",
    # Two knots for END, or numbers in another order.
    "x. y.", "x>2 y>2 -. -.", "x>1 -. y>3 -.", "x>2 y>2 -.", "-. x>0", "-! x>0", "x>2 -. ->1",
    "y>1 -. x>1", "x>2 -. y>1",
    # A cell that is no knot: no name, and a single arrow to it.
    "x>1 ->2 -.", "x>1 ->2 ->2", "x>1 ->2 -!", "x>1 ->0", "x>1 ->2 ->0", "x>1 ->2 ->1 y!",
    "abcde.", "a. b. c. d. e.", "a! b! c! d! e!", "x>1 x>0", "x>1 .", "x>1 !", "x>1 >1", "x>1\n-.", "x>1 -.\n", "x>1 - .",
]


class ShapesTest(unittest.TestCase, Asking):
    def test_six_shapes_with_one_name_and_sixty_with_two(self):
        self.assertEqual(shapes("x"), ONE)
        self.assertEqual(shapes(names="b"), tuple(shape.replace("x", "b") for shape in ONE))
        self.assertEqual(len(shapes("xy")), 60)

    def test_ascending_and_unlike(self):
        for names in ("x", "az", "xy"):
            found = shapes(names)
            self.assertIsInstance(found, tuple)
            self.assertEqual(list(found), sorted(set(found)))
            self.assertTrue(all(is_shape(shape) and letters_of(shape) == names for shape in found))

    def test_they_are_the_shapes_of_all_small_stores(self):
        found = {plan_of(store).shape for store in small_stores("x", (1, 2), 3)}
        self.assertEqual(tuple(sorted(found)), shapes("x"))
        found = {plan_of(store).shape for store in small_stores("xy", (1, 2, 3), 5)}
        for text in ("x=1 y=4 | 1>2 2>3 3>2 4>3", "x=1 y=3 | 1>2 2>2 3>4 4>4", "x=1 y=4 | 1>2 2>3 3>3 4>2"):
            shape = plan_of(read_store(text)).shape
            self.assertNotIn(shape, found)
            found.add(shape)
        self.assertEqual(tuple(sorted(found)), shapes("xy"))

    def test_wrong_names(self):
        self.asks_for_all("InvalidNames", odd_values(but=("xy",)), shapes)
        self.asks_for_all("InvalidNames", ["yx", "xx", "abcde", "x y", "X", ("x",), ["x"], "x1"], shapes)
        self.asks("TooMany", 3, shapes, "xyz")
        self.asks("TooMany", 4, shapes, "abcd")


class IsShapeTest(unittest.TestCase, Asking):
    def test_shapes(self):
        for shape in ONE + ("x>1 ->2 -. y>1", "x>1 ->1 y>3 ->3", "x>1 ->2 ->1 y>2", "x! y!", "xy!", "abcd.",
                            "a>1 ->2 ->3 -. b>1 c>2 d>2", "a! b! c! d!", "a>1 -! b>3 -! c>5 -! d>7 -!",
                            "a>1 ->1 b>3 ->3 c>5 ->5 d>7 ->7", "x>1 y>0", "x>1 -. y!", "x>1 y.", "x>1 y>2 -."):
            self.assertIs(is_shape(shape), True, shape)

    def test_many_words(self):
        self.assertIs(is_shape(value="a>1 ->2 ->3 -. b>1 c>2"), True)
        self.assertIs(is_shape(" ".join(["x."] + ["-!"] * 1000)), False)
        self.assertIs(is_shape(" ".join(f"->{number}" for number in range(700))), False)

    def test_no_shapes(self):
        for value in NO_SHAPES + list(odd_values()) + [ONE, list(ONE), ("x.",), b"x."]:
            self.assertIs(is_shape(value), False, value)

    def test_against_all_small_stores(self):
        for store in small_stores("xz", (1, 2), 4):
            self.assertTrue(is_shape(plan_of(store).shape))


class KnotsTest(unittest.TestCase, Asking):
    def test_knot_words(self):
        self.assertEqual(knot_words("x>1 ->2 -. y>1"), (("x", ">", 1), ("", ">", 2), ("", ".", None), ("y", ">", 1)))
        self.assertEqual(knot_words("abc! d."), (("abc", "!", None), ("d", ".", None)))
        self.assertEqual(knot_words(shape="x>0"), (("x", ">", 0),))

    def test_numbers(self):
        told = [(shape, knots_number(shape), lengths_number(shape), letters_of(shape))
                for shape in ("x.", "x>0", "x>1 ->1", "x>1 ->2 -. y>1", "bd>1 -!")]
        self.assertEqual(told, [("x.", 1, 0, "x"), ("x>0", 1, 1, "x"), ("x>1 ->1", 2, 2, "x"),
                                ("x>1 ->2 -. y>1", 4, 3, "xy"), ("bd>1 -!", 2, 1, "bd")])
        self.assertEqual(letters_of("a>1 d>2 c. b!"), "abcd")

    def test_knot_at(self):
        shape = "a>1 d>2 c. b!"
        self.assertEqual([knot_at(shape, letter) for letter in "abcd"], [0, 3, 2, 1])
        self.assertEqual(knot_at(letter="y", shape="x>1 ->2 -. y>1"), 3)
        self.assertEqual(knot_at("xy.", "y"), 0)

    def test_stretches_on_way(self):
        shape = "x>1 ->2 -. y>1"
        self.assertEqual([stretches_on_way(shape, letter) for letter in "xy"], [(0, 1), (3, 1)])
        self.assertEqual(stretches_on_way("x>1 ->2 ->1 y>2", "y"), (3, 2, 1))
        self.assertEqual(stretches_on_way("x>1 ->2 ->1 y>2", "x"), (0, 1, 2))
        self.assertEqual(stretches_on_way("x>0", "x"), (0,))
        self.assertEqual(stretches_on_way(letter="y", shape="x. y!"), ())
        # Knots without cells are counted, too.
        self.assertEqual(stretches_on_way("x. y>2 ->2", "y"), (1, 2))

    def test_no_shape(self):
        for action in (letters_of, knots_number, lengths_number, knot_words):
            self.asks_for_all("InvalidShape", NO_SHAPES + list(odd_values()), action)
        for action in (knot_at, stretches_on_way):
            self.asks_for_all("InvalidShape", NO_SHAPES + list(odd_values()), lambda shape: action(shape, None))

    def test_no_name(self):
        for action in (knot_at, stretches_on_way):
            self.asks_for_all("UnknownName", list(odd_values()) + ["y", "x>", "x>0"], lambda name: action("x>0", name))
            self.asks("UnknownName", "xy", action, "xy.", "xy")


if __name__ == "__main__":
    unittest.main()
