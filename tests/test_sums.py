"""What is made of sets of lengths ([14], [15])."""

import unittest
from random import Random

from arrowcells.lengths import Lengths
from arrowcells.sums import both, lies_in, multiplied, parts, shifted, sums, union, without
from tests import naive
from tests.helpers import LENGTHS, Asking, Measuring, odd_values, some_texts

PAIRED = (union, both, without, sums, parts, lies_in)


class SumsTest(unittest.TestCase, Asking, Measuring):
    def test_against_the_plainest_way(self):
        texts = list(some_texts(Random(8), 120))
        for text, other in zip(texts, reversed(texts)):
            first, second = Lengths(text), Lengths(other)
            members = {number for number in range(900) if naive.has(text, number)}
            others = {number for number in range(900) if naive.has(other, number)}
            below = range(300)
            told = [(union, {number for number in below if number in members or number in others}),
                    (both, {number for number in below if number in members and number in others}),
                    (without, {number for number in below if number in members and number not in others}),
                    (sums, {number for number in below
                            if any(number - part in others for part in members if part <= number)}),
                    (parts, {number for number in below
                             if any(number + part in members for part in others if part < 500)})]
            for action, expected in told:
                self.check(action(first, second), expected, 300)
            self.assertIs(lies_in(first, second), members <= others, (text, other))

    def test_one_set_and_a_number(self):
        for text in some_texts(Random(9), 100):
            lengths = Lengths(text)
            members = {number for number in range(900) if naive.has(text, number)}
            for by in (0, 1, 2, 3):
                if lengths.step * by <= 12:
                    self.check(multiplied(lengths, by), {number * by for number in members if number * by < 300}, 300)
            for by in (-300, -31, -12, -5, -1, 0, 1, 7, 100):
                self.check(shifted(lengths, by), {number + by for number in members if 0 <= number + by < 300}, 300)

    def test_told_results(self):
        told = [(union, "1", "2+2", "1 2+2"), (union, "none", "none", "none"), (both, "0+2", "0+3", "0+6"),
                (both, "1", "2", "none"), (without, "0+", "0+2", "1+2"), (without, "1 2", "0+", "none"),
                (sums, "2+3", "1 2", "3+3 4+3"), (sums, "none", "0+", "none"), (sums, "0+", "none", "none"),
                (sums, "0", "5+2", "5+2"), (sums, "0+6", "0+10", "0 6 10 12 16+2"), (sums, "1 2", "1 2", "2 3 4"),
                (parts, "5", "1+", "0 1 2 3 4"), (parts, "5+", "0+", "0+"), (parts, "1+2", "0+4", "1+2"),
                (parts, "5", "7", "none"), (parts, "5", "none", "none"), (parts, "none", "0+", "none"),
                (parts, "0+6", "1+4", "1+2")]
        for action, text, other, expected in told:
            self.assertEqual(action(Lengths(text), Lengths(other)).text, expected, (action, text, other))
        self.assertIs(lies_in(Lengths("4+4"), Lengths("0+2")), True)
        self.assertIs(lies_in(Lengths("0+2"), Lengths("4+4")), False)
        self.assertIs(lies_in(Lengths("none"), Lengths("none")), True)
        # Here no bound is told for the step.
        self.assertIs(lies_in(Lengths("0+59"), Lengths("0+60")), False)

    def test_at_their_bounds(self):
        self.assertEqual(multiplied(Lengths("1+10"), 6).text, "6+60")
        self.assertEqual(multiplied(lengths=Lengths("3 5"), by=0).text, "0")
        self.assertEqual(multiplied(Lengths("none"), 0).text, "none")
        self.assertEqual(multiplied(Lengths("0+"), 0).text, "0")
        self.assertEqual(multiplied(Lengths("0+"), 6).text, "0+6")
        self.assertEqual(shifted(Lengths("0 400+"), by=-400).text, "0+")
        self.assertEqual(shifted(Lengths("5 100"), 400).text, "405 500")
        self.assertEqual(shifted(Lengths("0+7"), -400).text, "6+7")
        self.assertEqual(shifted(Lengths("0+60"), 400).text, "400+60")
        self.assertEqual(shifted(Lengths("1+60"), 400).start, 342)

    def test_too_many(self):
        self.asks("TooMany", 77, union, Lengths("0+7"), Lengths("0+11"))
        self.asks("TooMany", 77, both, Lengths("0+7"), Lengths("0+11"))
        self.asks("TooMany", 77, without, Lengths("0+7"), Lengths("0+11"))
        self.asks("TooMany", 3422, sums, Lengths("0+59"), Lengths("0+60"))
        self.asks("TooMany", 601, sums, Lengths("300"), Lengths("300"))
        self.assertEqual(sums(Lengths("300"), Lengths("299")).text, "599")
        self.asks("TooMany", 66, multiplied, Lengths("0+11"), 6)
        self.asks("TooMany", 360, multiplied, Lengths("599 599+60"), 6)
        self.asks("TooMany", 601, multiplied, Lengths("300 0"), 2)
        self.asks("TooMany", 601, shifted, Lengths("201"), 399)
        self.asks("TooMany", 1000, shifted, Lengths("600+"), 400)
        self.asks("TooMany", 70, union, Lengths("599 0+7"), Lengths("0+10"))

    def test_wrong_sets(self):
        for action in PAIRED:
            for value in odd_values(but=(Lengths,)):
                self.asks("NotLengths", value, action, value, None)
                self.asks("NotLengths", value, action, LENGTHS, value)
            self.assertIsNotNone(action(other=LENGTHS, lengths=LENGTHS))
        for action in (multiplied, shifted):
            for value in odd_values(but=(Lengths,)):
                self.asks("NotLengths", value, action, value, None)

    def test_wrong_numbers(self):
        for value in odd_values(but=(-1,)):
            self.asks("InvalidNumber", value, multiplied, LENGTHS, value)
            self.asks("InvalidNumber", value, shifted, LENGTHS, value)
        self.asks_for_all("InvalidNumber", [7, -1, True], lambda by: multiplied(LENGTHS, by))
        self.asks_for_all("InvalidNumber", [401, -401, False], lambda by: shifted(LENGTHS, by))

    def test_the_told_sets_stay(self):
        first, second = Lengths("0 3+2"), Lengths("2 4+3")
        for action in PAIRED:
            self.assertEqual(action(first, second), action(first, second))
        self.assertEqual((first.text, second.text), ("0 3+2", "2 4+3"))


if __name__ == "__main__":
    unittest.main()
