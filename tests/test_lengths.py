"""Sets of lengths and their texts ([14], [15])."""

import unittest
from random import Random

from arrowcells.lengths import Lengths, of_numbers
from tests import naive
from tests.helpers import Asking, Measuring, odd_values, some_texts

HUGE = 10 ** 30
NO_TEXTS = ["", " ", "1 ", " 1", "1  2", "01", "1+01", "1+1", "1+0", "1+61", "1001", "1001+", "1001+2", "+", "+2", "1++",
            "1+2+3", "1 +2", "1+ 2+x", "x", "-1", "none 1", "1 none", "none+", "None", "1,2", "1.0", "1-2", "1+-2", "+1",
            "1\n", "1+2 ", "none ", " none", "1 2+61", "1" * 31, "1_0", "1+2_"]


class LengthsTest(unittest.TestCase, Asking, Measuring):
    def test_against_the_plainest_way(self):
        for text in some_texts(Random(6), 400):
            members = {number for number in range(300) if naive.has(text, number)}
            self.check(Lengths(text), members, 300)
            self.assertEqual(Lengths(Lengths(text).text), Lengths(text))

    def test_normal_texts(self):
        told = {"2+ 1+2": "1+", "0+2 1+2": "0+", "4+2 2 6": "2+2", "none": "none", "0": "0", "3 1 2 1": "1 2 3",
                "0 3+2": "0 3+2", "1+2 0+4": "0+4 1+4 3+4", "1+4 3+4": "1+2", "7 5+": "5+", "0+60": "0+60",
                "0+6 3+6": "0+3", "0+6 2+6 4+6 1": "0 1 2+2", "5 0+": "0+", "1+ 0": "0+",
                "599": "599", "12+3 9 6": "6+3"}
        for text, normal in told.items():
            self.assertEqual(Lengths(text).text, normal)

    def test_step_and_start(self):
        told = [("none", 1, 0, (), (), None, False), ("0", 1, 1, (0,), (), 0, False), ("0+", 1, 0, (), (0,), 0, True),
                ("5", 1, 6, (5,), (), 5, False), ("0 3+2", 2, 2, (0,), (3,), 0, True), ("3+2", 2, 2, (), (3,), 3, True),
                ("7+60", 60, 0, (), (7,), 7, True), ("67+60", 60, 8, (), (67,), 67, True),
                ("0+4 2+4", 2, 0, (), (0,), 0, True), ("1+2 3+3 1", 6, 1, (), (1, 3, 5, 6), 1, True)]
        for text, step, start, below, cycle, least, is_endless in told:
            lengths = Lengths(text)
            found = (lengths.step, lengths.start, lengths.below, lengths.cycle, lengths.least, lengths.is_endless)
            self.assertEqual(found, (step, start, below, cycle, least, is_endless), text)

    def test_wrong_texts(self):
        self.asks_for_all("InvalidLengths", NO_TEXTS, Lengths)
        self.asks_for_all("InvalidLengths", odd_values(), Lengths)
        self.asks_for_all("InvalidLengths", [("1",), ["1"], 1, b"1"], Lengths)
        self.assertEqual(Lengths(text="1+60").step, 60)

    def test_numbers_at_their_bounds(self):
        # 1000 may be written, though a start behind it is too high.
        self.assertEqual(Lengths("1000+ 0+").text, "0+")
        self.assertEqual(Lengths("1000+2 0+2").text, "0+2")
        self.asks("TooMany", 1001, Lengths, "1000")
        self.asks("TooMany", 1000, Lengths, "1000+")
        self.asks("TooMany", 999, Lengths, "1000+2")
        self.assertEqual((Lengths("599").start, Lengths("600+").start, Lengths("601+2").start), (600, 600, 600))
        self.asks("TooMany", 601, Lengths, "600")
        self.asks("TooMany", 601, Lengths, "601+")
        self.asks("TooMany", 601, Lengths, "602+2")

    def test_the_least_common_multiple_is_bounded_first(self):
        self.asks("TooMany", 77, Lengths, "0+7 0+11")
        self.asks("TooMany", 66, Lengths, "0+ 3+6 1000+11")
        self.asks("TooMany", 120, Lengths, "0+40 0+60")
        self.assertEqual(Lengths("0+3 0+4 0+5").step, 60)
        self.assertEqual(Lengths("1+ 0+20 0+30").text, "0+")

    def test_equal_exactly_if_the_same_set(self):
        for text, other in (("2+ 1+2", "1+"), ("0+2 1+2", "0+"), ("4+2 2 6", "2+2"), ("1 2", "2 1 1"), ("1+3", "1 4+3")):
            self.assertTrue(Lengths(text) == Lengths(other) and not Lengths(text) != Lengths(other))
        told = ["none", "0", "1", "0+", "1+", "0+2", "1+2", "0+4", "0 2+", "0 1", "0+60"]
        for number, text in enumerate(told):
            for behind, other in enumerate(told):
                self.assertIs(Lengths(text) == Lengths(other), number == behind)
                self.assertIs(Lengths(text) != Lengths(other), number != behind)
        for value in odd_values(but=(Lengths,)):
            self.assertIs(Lengths("1") == value, False)
            self.assertIs(Lengths("none") != value, True)
        self.assertTrue(Lengths("none"))

    def test_in(self):
        lengths = Lengths("0 3+2")
        self.assertEqual([number for number in range(9) if number in lengths], [0, 3, 5, 7])
        self.assertTrue(HUGE + 1 in lengths and HUGE not in lengths and 10 ** 90 + 1 in lengths)
        for value in (None, True, False, -1, -3, "0", "3", (0,), [3], {}, b"0", HUGE * 2, Lengths("0"), int):
            self.assertIs(value in lengths, False)
        self.assertFalse(1 in Lengths("none") or 7 in Lengths("6") or 6 in Lengths("5") or True in Lengths("1"))

    def test_members(self):
        lengths = Lengths("0 3+2")
        self.assertEqual([lengths.members(many) for many in (0, 1, 2, 5)], [(), (0,), (0, 3), (0, 3, 5, 7, 9)])
        self.assertEqual(Lengths("5 1").members(many=400), (1, 5))
        self.assertEqual(Lengths("none").members(3), ())
        self.assertEqual(Lengths("1+3 2+3").members(5), (1, 2, 4, 5, 7))
        self.assertEqual(Lengths("7+").members(400), tuple(range(7, 407)))
        self.asks_for_all("InvalidNumber", [401, -1, True, "1", None, 2 ** 70], lengths.members)
        self.asks_for_all("InvalidNumber", odd_values(), lengths.members)

    def test_counted(self):
        for text in some_texts(Random(7), 100):
            lengths = Lengths(text)
            for high in list(range(20)) + [50, 100]:
                expected = len([number for number in range(high + 1) if naive.has(text, number)])
                self.assertEqual(lengths.counted(high), expected, (text, high))
        self.assertEqual(Lengths("0+").counted(HUGE), HUGE + 1)
        self.assertEqual(Lengths("1+2").counted(high=HUGE), HUGE // 2)
        self.assertEqual(Lengths("2 4 7+60").counted(HUGE), 2 + (HUGE - 7) // 60 + 1)
        self.assertEqual(Lengths("none").counted(HUGE), 0)
        self.asks_for_all("InvalidNumber", [HUGE + 1, -1, False, "1", None], Lengths("0+").counted)
        self.asks_for_all("InvalidNumber", odd_values(), Lengths("none").counted)


class OfNumbersTest(unittest.TestCase, Asking):
    def test_finite_sets(self):
        told = [((), "none"), ((0,), "0"), ((5, 1, 5), "1 5"), ((599, 0), "0 599"), ((3, 2, 1, 0), "0 1 2 3")]
        for numbers, text in told:
            self.assertEqual(of_numbers(numbers).text, text)
            self.assertEqual(of_numbers(numbers), Lengths(text))
        self.assertEqual((of_numbers(numbers=(599,)).step, of_numbers((599,)).start), (1, 600))
        self.assertEqual(of_numbers(tuple(range(600))).below, tuple(range(600)))

    def test_wrong_numbers(self):
        for value in odd_values(but=(tuple,)):
            self.points("InvalidNumbers", None, of_numbers, value)
        self.points("InvalidNumbers", None, of_numbers, [1])
        for wrong in (600, -1, True, "1", None, (1,), [1], Lengths("1")):
            self.points("InvalidNumbers", 0, of_numbers, (wrong,))
            self.points("InvalidNumbers", 2, of_numbers, (1, 1, wrong, wrong, 1))


if __name__ == "__main__":
    unittest.main()
