"""Pictures and sayings: their texts and trees ([6], [16], [18])."""

import unittest

from arrowcells.sayings import is_saying, saying_text, saying_tree, shown_letters
from tests.helpers import Asking, nested, nested_lists, odd_values

REST = ("picture", "", (("rest",),))
EIGHT = " * ".join(["x = y"] * 8)
GOOD = [
    "rest", "x = y", "x = x", "x = END", "x != y", "x != END", "gone x", "lost 0", "lost none", "lost 1 2+ 3+6", "lost 12+6",
    "lost 12+", "chain x y 0+", "chain x END 0+2 1", "chain x x none", "chain x END 12", "lost 3 2 1 1", EIGHT,
    "some h : chain x h 1", "some h k : chain x h 1 * chain x k 1", "some k h : chain x h 1 * chain x k 1",
    "some h k : chain x h 1 * chain h k 1", "some h k : chain h k 1 * chain x h 1", "some h : chain x h 0+ * chain h h 1+",
    "some h k : chain h k 1 * chain k h 1 * chain x k 1", "some x : chain y x 1 * gone x",
    "chain a b 1 * chain b c 1 * chain c d 1 * chain d e 1", "rest * lost 1 * lost 2", "x = y * rest", "a = b * c = d * e = f",
    "not ( rest )", "( rest ) and ( rest )", "( rest ) or ( rest ) or ( rest )", "not ( not ( not ( not ( rest ) ) ) )",
    "( ( ( ( rest ) or ( rest ) ) and ( rest ) ) or ( rest ) ) and ( rest )", "( not ( rest ) ) and ( not ( x = END ) )",
    "( rest ) and ( rest ) and ( rest ) and ( rest ) and ( rest ) and ( rest )", "( lost 1+6 ) and ( lost 2+6 5 7+ )",
    "( not ( not ( not ( rest ) ) ) ) or ( rest )", "( ( rest ) or ( rest ) ) and ( ( rest ) or ( rest ) )",
]
BAD = [
    "", " ", "rest ", " rest", "rest  * rest", "rest * rest", "rest rest", "Rest", "x", "x y", "x =", "= x", "x = END END",
    "END = x", "END = END", "END != x", "x == y", "x=y", "x = Y", "xx = y", "x = yy", "x = 1", "gone", "gone END",
    "gone x y", "gone xy", "lost", "lost ", "lost x", "lost 13", "lost 13+", "lost 13+2", "lost 1 13", "lost 1+7",
    "lost 1+1", "lost 01", "lost 1  2", "lost none 1", "chain x y", "chain x 1", "chain END x 1", "chain END END 1",
    "chain x y 13", "chain x y 1+7", "chain x y 1+60", "chain x y z 1", "chain xy END 1", "chain x end 1",
    EIGHT + " * x = y", "chain a b 1 * chain b c 1 * chain c d 1 * chain d e 1 * chain e f 1", "x = y *", "* x = y",
    "x = y * * rest", "x = y*rest", "x = y , rest", "some : rest", "some h : rest", "some h : x = h * rest", "some h :",
    "some h : ", "some h", "some", "some h chain x h 1", "some h: chain x h 1", "some h h : chain x h 1",
    "some h k l : chain x h 1 * chain x k 1 * chain x l 1", "some H : chain x H 1", "some hk : chain x h 1 * chain x k 1",
    "some END : chain x END 1", "some h : chain h h 1 * rest", "some h : chain h x 1", "some h k : chain x h 1",
    "some h k : chain x h 1 * chain k h 1", "some h k : chain h k 1 * chain k h 1", "some h : chain x END 1",
    "some h : some k : chain x k 1", "chain x h 1 * some h : rest", "some h : lost 1 * gone h",
    "( rest )", "not rest", "not ( rest", "not ( rest ) )", "not( rest )", "not (rest)", "rest and rest",
    "( rest ) and", "( rest ) and rest", "rest and ( rest )", "( rest ) and ( rest ) or ( rest )", "( rest ) xor ( rest )",
    "( rest ) ( rest )", "( rest ) and and ( rest )", "and ( rest )", "( ) and ( rest )", "not ( )", "not not ( rest )",
    "( rest ) and not ( rest )", "not ( rest ) and ( rest )", "( rest ) and ( rest ) ( rest )", "(( rest ) and ( rest ))",
    "( ( rest ) ) and ( rest )", "not ( ( rest ) )", ")", "(", "( rest", "rest )", "( rest ) or ( rest",
    "not ( not ( not ( not ( not ( rest ) ) ) ) )", "not ( ( ( ( ( rest ) or ( rest ) ) and ( rest ) ) or ( rest ) ) and ( rest ) )",
    "( rest ) and ( rest ) and ( rest ) and ( rest ) and ( rest ) and ( rest ) and ( rest )",
    "lost 1+2 * lost 1+3", "lost 1+2 1+3", "( lost 1+2 ) and ( lost 1+3 )", "( lost 1+2 ) or ( not ( chain x y 1+4 ) )",
    "link x y 1", "chain", "chain x", "chain END", "not [ rest )", "( rest ) and [ rest )", "not ( not ( rest ) ]",
    "( ( rest ) or ( rest ) ] and ( rest )", "not ( not ( rest ) x", "missing x", "loss 1", "x < y", "x y z",
    "rest\n", "\trest", "rest*rest", "not  ( rest )", "( rest ) AND ( rest )", "NOT ( rest )",
]
NO_TREES = [
    ("and", None), ("or", 5), ("and", "rest"), ("picture", "", None), ("picture", "", 5), ("picture", "", "rest"),
    ("picture", "", ()), ("picture", ("rest",)), ("picture", "", (("rest",),), ()), ("picture", None, (("rest",),)),
    ("picture", "", [("rest",)]), ["picture", "", (("rest",),)], ("picture", "", (["rest"],)), ("picture", "", ("rest",)),
    ("picture", "", (("rest", ""),)), ("picture", "", (("rest",), ("rest",))), ("picture", "h", (("rest",),)),
    ("picture", " ", (("rest",),)), ("picture", "", (("=", "x"),)), ("picture", "", (("=", "x", "y", "z"),)),
    ("picture", "", (("x", "=", "y"),)), ("picture", "", (("=", "END", "x"),)), ("picture", "", (("gone", "END"),)),
    ("picture", "", (("gone", "x * rest"),)), ("picture", "", (("lost", "1", "2"),)), ("picture", "", (("lost", 1),)),
    ("picture", "", (("lost", "13"),)), ("picture", "", (("lost", "1 * rest"),)), ("picture", "", (("chain", "x", "y"),)),
    ("picture", "", (("chain", "x", "y", "1", "2"),)), ("picture", "", (("chain", "x", "y 1", "2"),)),
    ("picture", "", (("chain", "x y", "1", "2"),)), ("picture", "", (("chain x", "y", "1"),)), ("picture", "", (("chain x y 1",),)),
    ("picture", "", (("x = y",),)), ("picture", "", (("=", "x", "y * rest"),)), ("picture", "h ", (("chain", "x", "h", "1"),)),
    ("picture", "h : some k", (("chain", "x", "h", "1"),)), ("picture", ("h",), (("chain", "x", "h", "1"),)),
    ("picture", "hh", (("chain", "x", "h", "1"),)), ("picture", "", (("gone", None),)), ("picture", "", (None,)),
    ("picture", "", ((),)), ("picture", "", (("",),)), ("Picture", "", (("rest",),)), ("not",), ("not", REST, REST),
    ("not", "rest"), ("not", (REST,)), ("not", None), ["not", REST], ("and", (REST,)), ("and", ()), ("and", REST),
    ("and", REST, REST), ("and", [REST, REST]), ("and", (REST, None)), ("and", (REST, "rest")), ("or", (REST,) * 7),
    ("xor", (REST, REST)), (None, (REST, REST)), (["and"], (REST, REST)), ("and", ("not", REST)),
    ("not", ("not", ("not", ("not", ("not", REST))))), ("or", (("picture", "", (("lost", "1+2"),)),
                                                              ("picture", "", (("lost", "1+3"),)))),
    ("picture", "", (("rest",),) * 9), ("and", (REST, ("and", (REST,)))), nested(14), nested_lists(14), "rest", REST[2],
]


class IsSayingTest(unittest.TestCase, Asking):
    def test_sayings(self):
        for text in GOOD:
            self.assertIs(is_saying(text), True, text)
        self.assertIs(is_saying(value="rest"), True)

    def test_no_sayings(self):
        for value in BAD + list(odd_values()) + [REST, ("rest",), ["rest"], b"rest"]:
            self.assertIs(is_saying(value), False, value)

    def test_long_texts(self):
        self.assertIs(is_saying("lost " + " ".join(["12"] * 1300)), True)
        self.assertIs(is_saying("not ( " * 600 + "rest" + " )" * 600), False)
        self.assertIs(is_saying("( " * 1999), False)
        self.assertIs(is_saying(" and ".join(["( rest )"] * 300)), False)


class TreeTest(unittest.TestCase, Asking):
    def test_trees(self):
        told = {
            "rest": REST, "x = END": ("picture", "", (("=", "x", "END"),)), "x != y": ("picture", "", (("!=", "x", "y"),)),
            "gone x * lost 2 1": ("picture", "", (("gone", "x"), ("lost", "2 1"))),
            "some k h : chain x h 3+2 1 * chain h k none":
                ("picture", "kh", (("chain", "x", "h", "3+2 1"), ("chain", "h", "k", "none"))),
            "not ( some h : chain x h 1+ * x != y * rest )":
                ("not", ("picture", "h", (("chain", "x", "h", "1+"), ("!=", "x", "y"), ("rest",)))),
            "( rest ) and ( not ( rest ) )": ("and", (REST, ("not", REST))),
            "( rest ) or ( ( rest ) and ( rest ) and ( rest ) ) or ( chain x END 0+ )":
                ("or", (REST, ("and", (REST, REST, REST)), ("picture", "", (("chain", "x", "END", "0+"),)))),
        }
        for text, tree in told.items():
            self.assertEqual(saying_tree(text), tree)
            self.assertEqual(saying_text(tree), text)
        self.assertEqual(saying_tree(saying="rest"), REST)
        self.assertEqual(saying_text(tree=REST), "rest")

    def test_there_and_back(self):
        for text in GOOD:
            self.assertEqual(saying_text(saying_tree(text)), text)

    def test_no_saying(self):
        for action in (saying_tree, shown_letters):
            self.asks_for_all("InvalidSaying", BAD, action)
            self.asks_for_all("InvalidSaying", odd_values(), action)
            self.asks("InvalidSaying", REST, action, REST)

    def test_no_tree(self):
        self.asks_for_all("InvalidSaying", NO_TREES, saying_text)
        self.asks_for_all("InvalidSaying", odd_values(), saying_text)

    def test_shown_letters(self):
        told = {"rest": "", "lost 1": "", "x = END": "x", "z != a": "az", "gone b": "b", "chain y x 0+": "xy",
                "some h : chain x h 1": "x", "some h k : chain b h 1 * h = k * chain h k 1": "b",
                "( gone x * rest ) or ( chain y x 0+ )": "xy", "not ( some x : chain y x 1 )": "y",
                "( some h : chain x h 1 ) and ( gone h )": "hx", "( gone h ) and ( some h : chain x h 1 )": "hx",
                "e = d * c = b * rest": "bcde", "chain x END 0": "x"}
        for text, letters in told.items():
            self.assertEqual(shown_letters(text), letters, text)
        self.assertEqual(shown_letters(saying="gone q"), "q")


if __name__ == "__main__":
    unittest.main()
