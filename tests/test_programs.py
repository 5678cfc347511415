"""Programs and tests: texts, trees and what stands in them ([22], [23])."""

import unittest
from random import Random

from arrowcells.programs import (deeds_of, has_loop, is_deed, is_plain, is_program, is_test, program_letters,
                                 program_text, program_tree, statements_number, test_tree)
from tests.chosen import some_program, some_test
from tests.helpers import Asking, nested, odd_values
from tests.naive import deeds_number, letters_of

COPY, NEXT, TIE, NEW, DROP = ("copy", "x", "y"), ("next", "x", "y"), ("tie", "x", "y"), ("new", "x"), ("drop", "x")
SAME = ("and", (("=", "x", "y"),))
ENDED = ("and", (("!=", "x", "END"),))
TREES = {
    "none": (),
    "x = y": (COPY,),
    "x = x": (("copy", "x", "x"),),
    "x = END": (("copy", "x", "END"),),
    "x = next y": (NEXT,),
    "x = next x": (("next", "x", "x"),),
    "next x = y": (TIE,),
    "next x = END": (("tie", "x", "END"),),
    "x = new": (NEW,),
    "drop x": (DROP,),
    "drop x; x = new; x = y": (DROP, NEW, COPY),
    "if x = y { none }": (("if", SAME, (), ()),),
    "if x = y { drop x }": (("if", SAME, (DROP,), ()),),
    "if x = y { none } else { drop x }": (("if", SAME, (), (DROP,)),),
    "if x = y { drop x; x = new } else { x = y; x = next y }": (("if", SAME, (DROP, NEW), (COPY, NEXT)),),
    "while x != END { none }": (("while", ENDED, ()),),
    "while x != END { next x = y }; drop x": (("while", ENDED, (TIE,)), DROP),
    "while x != END { if x = y { x = new } else { while x = y { drop x } } }":
        (("while", ENDED, (("if", SAME, (NEW,), (("while", SAME, (DROP,)),)),)),),
    "if x = y and x != END and z = END { none }":
        (("if", ("and", (("=", "x", "y"), ("!=", "x", "END"), ("=", "z", "END"))), (), ()),),
    "if x = y or x = END { drop x }": (("if", ("or", (("=", "x", "y"), ("=", "x", "END"))), (DROP,), ()),),
}
NO_PROGRAMS = [
    "", " ", "none ", " none", "None", "none; none", "x = y; none", "none; x = y", "x = y;", "; x = y", "x = y; ; x = y",
    "x = y;  x = y", "x = y ; x = y", "x = y;x = y", "x  = y", "x=y", "x = Y", "x = 1", "x = end", "END = x", "x = ",
    "x = next", "x = next END", "x = next y z", "next x", "next x =", "next END = x", "next x = next y", "next x = new",
    "x = drop y", "drop", "drop END", "drop x y", "new x", "x = new y", "xx = y", "x == y", "x != y", "x := y",
    "if x = y", "if x = y { }", "if x = y { x = y", "if x = y x = y }", "if { x = y }", "if x = y { x = y } }",
    "if x = y {x = y}", "if x = y { x = y }; else { x = y }", "if x = y { x = y } else x = y", "else { x = y }",
    "if x = y { none } else x none }", "if x = y { none } else ( none }",
    "if x = y { x = y } else { x = y } else { x = y }", "if x = y { x = y } else { }", "while x = y { x = y } else { none }",
    "while { none }", "while x = y", "while x = y { x = y;}", "while x = y { x = y }}", "if x = y and { none }",
    "if x = y and y = z or z = x { none }", "if x = y or y = z or z = x or x = x { none }", "if x { none }",
    "if x = new { none }", "if END = x { none }", "if not x = y { none }", "while ( x = y ) { none }", "{ x = y }",
    "x = y { none }", "x = y\n", "x\t= y", "if x = y { x = y } x = y", "while x = y { none } drop x", "if x = y { else }",
]
TESTS = {
    "x = y": ("and", (("=", "x", "y"),)),
    "x = END": ("and", (("=", "x", "END"),)),
    "x != x": ("and", (("!=", "x", "x"),)),
    "x != END and y = x": ("and", (("!=", "x", "END"), ("=", "y", "x"))),
    "x = y or x != z or z = END": ("or", (("=", "x", "y"), ("!=", "x", "z"), ("=", "z", "END"))),
    "a = b and c = d and e = f": ("and", (("=", "a", "b"), ("=", "c", "d"), ("=", "e", "f"))),
}
NO_TESTS = [
    "", "x", "x =", "= y", "x y", "x = y z", "END = x", "END = END", "x = y and", "and x = y", "x = y and and y = z",
    "x = y and y = z or z = x", "x = y or y = z and z = x", "x = y and x = y and x = y and x = y", "x = y x = z",
    "x = y or x = y or x = y or x = y", "x == y", "x < y", "not x = y", "( x = y )", "x = y ", " x = y", "x  = y", "x = Y",
    "x = new", "x = next y", "x = y xor x = z", "x = y, x = z", "x = y; x = z", "none", "x = y and x = y and x = y and",
]
NO_TREES = [
    None, "none", "x = y", [], [COPY], (None,), ("copy", "x", "y"), (COPY, ()), ((),), (("copy", "x"),), (("copy", "x", 1),),
    (("copy", "END", "x"),), (("next", "x", "END"),), (("tie", "END", "x"),), (("new", "x", "y"),), (("new", "END"),),
    (("drop", "xx"),), (("drop",),), (["copy", "x", "y"],), (("Copy", "x", "y"),), (("copy", "x", "y; drop x"),),
    (("if", SAME, (DROP,)),), (("while", SAME, (DROP,), ()),), (("if", SAME, DROP, ()),), (("if", SAME, [DROP], ()),),
    (("while", (), (DROP,)),), (("while", ("and", ()), (DROP,)),), (("while", ("or", (("=", "x", "y"),)), (DROP,)),),
    (("while", ("and", (("=", "x", "y"),) * 4), (DROP,)),), (("while", ("and", [("=", "x", "y")]), (DROP,)),),
    (("while", ("and", (("==", "x", "y"),)), (DROP,)),), (("while", ("and", (("=", "END", "y"),)), (DROP,)),),
    (("while", ("and", (("=", "x", "y and x = z"),)), (DROP,)),), (("while", ("xor", (("=", "x", "y"),) * 2), (DROP,)),),
    (("while", ("and", (("=", "x"),)), (DROP,)),), (("while", "x = y", (DROP,)),), (("while", SAME, None),),
    (("until", SAME, (DROP,)),), (("if", SAME, (DROP,), (("drop", 1),)),), (("if", SAME, (("if", SAME, ((),), ()),), ()),),
    ((("copy", "x", "y"),),), (True,), (0,), ({},), (b"x",), (("drop", b"x"),), ("drop x",), (("none",),), (("else", ()),),
]


def braces(depth, inner="drop x"):
    """A program with so many braces in one another."""
    return "if x = y { " * depth + inner + " }" * depth


class ProgramTest(unittest.TestCase, Asking):
    def test_trees(self):
        for text, tree in TREES.items():
            self.assertIs(is_program(text), True, text)
            self.assertEqual(program_tree(text), tree, text)
            self.assertEqual(program_text(tree), text)
        self.assertEqual(program_tree(program="drop x"), (("drop", "x"),))
        self.assertEqual(program_text(tree=()), "none")

    def test_no_programs(self):
        for value in NO_PROGRAMS + list(odd_values()):
            self.assertIs(is_program(value), False, value)
            for action in (program_tree, program_letters, deeds_of, has_loop, is_plain, statements_number):
                self.asks("InvalidProgram", value, action, value)

    def test_tests(self):
        for text, tree in TESTS.items():
            self.assertIs(is_test(text), True, text)
            self.assertEqual(test_tree(text), tree)
            self.assertEqual(program_tree(f"while {text} {{ none }}"), (("while", tree, ()),))
        for value in NO_TESTS + list(odd_values()):
            self.assertIs(is_test(value), False, value)
            self.asks("InvalidTest", value, test_tree, value)
        for text in NO_TESTS:
            self.assertIs(is_program(f"if {text} {{ none }}"), False, text)
        self.assertEqual(test_tree(test="x = y")[0], "and")
        self.assertIs(is_test(value="x = y"), True)

    def test_an_empty_else(self):
        first = "if x = y { drop x } else { none }"
        self.assertEqual(program_tree(first), program_tree("if x = y { drop x }"))
        self.assertEqual(program_text(program_tree(first)), "if x = y { drop x }")
        inner = "while x = y { if x = y { none } else { none }; drop x }"
        self.assertEqual(program_text(program_tree(inner)), "while x = y { if x = y { none }; drop x }")
        self.assertEqual(statements_number(first), 2)

    def test_at_most_thirty_statements(self):
        self.assertTrue(is_program("; ".join(["drop x"] * 30)))
        self.assertFalse(is_program("; ".join(["drop x"] * 31)))
        full = "while x = y { " + "; ".join(["drop x"] * 14) + " }; if x = y { " + "; ".join(["drop x"] * 7) + " } else { %s }"
        self.assertTrue(is_program(full % "; ".join(["drop x"] * 7)))
        self.assertFalse(is_program(full % "; ".join(["drop x"] * 8)))
        self.assertEqual(statements_number(full % "; ".join(["drop x"] * 7)), 30)
        self.assertEqual(program_text(program_tree("; ".join(["drop x"] * 30))).count("drop"), 30)
        self.asks("InvalidProgram", (DROP,) * 31, program_text, (DROP,) * 31)
        tree = (("while", SAME, (DROP,) * 30),)
        self.asks("InvalidProgram", tree, program_text, tree)

    def test_at_most_four_braces_in_one_another(self):
        self.assertTrue(is_program(braces(4)) and is_program(braces(4, "none")))
        self.assertFalse(is_program(braces(5)) or is_program(braces(5, "none")))
        self.assertFalse(is_program("if x = y { none } else { " + braces(4) + " }"))
        self.assertTrue(is_program("if x = y { none } else { " + braces(3) + " }; " + braces(4)))
        tree = (DROP,)
        for _ in range(4):
            tree = (("while", SAME, tree),)
        self.assertEqual(program_text(tree), braces(4).replace("if", "while"))
        self.asks("InvalidProgram", (("while", SAME, tree),), program_text, (("while", SAME, tree),))

    def test_no_trees(self):
        for value in NO_TREES + list(odd_values(but=((),))):
            self.asks("InvalidProgram", value, program_text, value)
        for wrong in NO_TREES[5:]:
            if isinstance(wrong, tuple):
                tree = (DROP, ("if", SAME, (("while", ENDED, wrong),), ()))
                self.asks("InvalidProgram", tree, program_text, tree)
                tree = (("if", SAME, (), wrong), DROP)
                self.asks("InvalidProgram", tree, program_text, tree)
        for value in (nested(13), (nested(12),), (("if", nested(10), (), ()),)):
            self.asks("InvalidProgram", value, program_text, value)

    def test_texts_and_trees_of_programs_at_random(self):
        random = Random(31)
        for _ in range(400):
            text = some_program(random, list("xyab"), random.randint(0, 14), 4)
            if is_program(text):
                tree = program_tree(text)
                self.assertEqual(program_text(tree), text.replace(" else { none }", ""))
                self.assertEqual(program_tree(program_text(tree)), tree)
                self.assertEqual(set(program_letters(text)), letters_of(tree))
                self.assertEqual(len(deeds_of(text)), deeds_number(tree))
                self.assertEqual(statements_number(text), deeds_number(tree) + text.count("if ") + text.count("while "))
                self.assertIs(has_loop(text), "while" in text)

    def test_tests_at_random(self):
        random = Random(32)
        for _ in range(200):
            text = some_test(random, list("xyab"))
            joint, comparisons = test_tree(text)
            words = [f"{first} {sign} {second}" for sign, first, second in comparisons]
            self.assertEqual(f" {joint} ".join(words), text)
            self.assertEqual(joint, "or" if " or " in text else "and")

    def test_letters(self):
        self.assertEqual(program_letters("none"), "")
        self.assertEqual(program_letters("x = END"), "x")
        self.assertEqual(program_letters("while q != a { next c = b }; if z = END { none } else { m = new }"), "abcmqz")
        self.assertEqual(program_letters(program="drop x"), "x")

    def test_deeds_in_the_order_of_the_text(self):
        text = "x = new; if x = y { drop x; while x = y { x = y } } else { next x = y }; x = next y"
        self.assertEqual(deeds_of(text), (NEW, DROP, COPY, TIE, NEXT))
        self.assertEqual(deeds_of("while x = y { none }"), ())
        self.assertEqual(deeds_of(program="drop x"), (DROP,))

    def test_loops(self):
        plain = "if x = y { while x = y { if x = y { none } } }; while x = y { none }"
        inner = "while x = y { if x = y { none } else { while x = y { drop x } } }"
        self.assertEqual((has_loop("none"), has_loop("if x = y { drop x }"), has_loop(plain), has_loop(inner)),
                         (False, False, True, True))
        self.assertEqual((is_plain("none"), is_plain("drop x"), is_plain(plain), is_plain(inner)), (True, True, True, False))
        self.assertIs(is_plain(program="while x = y { while x = y { none } }"), False)
        self.assertIs(has_loop(program="if x = y { none } else { while x = y { none } }"), True)

    def test_statements(self):
        self.assertEqual([statements_number(text) for text in ("none", "drop x", "if x = y { none }", braces(3))], [0, 1, 1, 4])
        self.assertEqual(statements_number(program="while x = y { drop x; drop y }; drop x"), 4)


class DeedTest(unittest.TestCase):
    def test_deeds(self):
        for deed in (COPY, NEXT, TIE, NEW, DROP, ("copy", "x", "END"), ("tie", "x", "END"), ("copy", "z", "z"), ("next", "a", "a")):
            self.assertIs(is_deed(deed), True)
        self.assertIs(is_deed(value=NEW), True)

    def test_no_deeds(self):
        wrong = [("copy", "x"), ("copy", "x", "y", "z"), ("copy", "END", "x"), ("copy", "x", "end"), ("copy", "x", None),
                 ("next", "x", "END"), ("next", "END", "x"), ("next", "x"), ("tie", "END", "x"), ("tie", "x", ""),
                 ("new", "END"), ("new", "x", "y"), ("new",), ("drop", "END"), ("drop", "x", "x"), ("drop", 1), ("Drop", "x"),
                 ["drop", "x"], "drop x", ("drop", "xy"), ("drop", "X"), ("drop", ("x",)), (("drop", "x"),), ("if", "x"),
                 (None, "x"), (1, "x", "y"), ([], "x"), ({}, "x", "y"), ("copy", [], "x"), ("copy", "x", []), ("x", "drop"),
                 ("while", SAME, ()), ("copy", "x", "yz"), ("copy", "x", b"y"), (b"drop", "x"), ("copy", "x", True)]
        for value in wrong + list(odd_values()):
            self.assertIs(is_deed(value), False, value)


if __name__ == "__main__":
    unittest.main()
