"""The examples of the interface, as they stand in the document."""

import unittest

from arrowcells import errors
from arrowcells.fits import chain_cells, keeps, placing
from arrowcells.lengths import Lengths
from arrowcells.lots import Lot, every, has_plan, lot_of
from arrowcells.plans import Plan, knots_of, plan_of, store_of, stretches_of
from arrowcells.sayings import saying_text, saying_tree, shown_letters
from arrowcells.shapes import knot_words, shapes, stretches_on_way
from arrowcells.stores import Store, read_store
from arrowcells.sums import both, lies_in, parts, shifted, sums, union, without
from arrowcells.ways import lost, tail_and_ring, way, way_end


class ExamplesTest(unittest.TestCase):
    def test_stores_and_plans(self):
        s = Store((("x", 4), ("y", 2)), ((2, 7), (4, 2), (5, 5), (7, 2), (9, 0)))
        self.assertEqual(
            [s.text, way(s, "x"), way_end(s, "x"), tail_and_ring(s, "x"), tail_and_ring(s, "y"), lost(s)],
            ['x=4 y=2 | 2>7 4>2 5>5 7>2 9>0', (4, 2, 7), 2, (1, 2), (0, 2), (5, 9)])
        self.assertEqual(
            [plan_of(s).text, knots_of(s), stretches_of(s), store_of(plan_of(s)).text],
            ['x>1 y>1 | 1 2 | 2', (4, 2), ((4,), (2, 7)), 'x=1 y=2 | 1>2 2>3 3>2 4>0 5>0'])
        self.assertEqual(
            [plan_of(read_store("x=3 y=0 | 1>8 3>1")).text, shapes("x"), len(shapes("xy")),
             knot_words("x>1 ->2 -. y>1"), stretches_on_way("x>1 ->2 -. y>1", "y")],
            ['x>1 -! y. | 2 | 0', ('x!', 'x.', 'x>0', 'x>1 -!', 'x>1 -.', 'x>1 ->1'), 60,
             (('x', '>', 1), ('', '>', 2), ('', '.', None), ('y', '>', 1)), (3, 1)])
        with self.assertRaises(errors.InvalidLengths) as caught:
            Plan("x>1 -.", (0,), 0)
        self.assertEqual(caught.exception.given, (0,))

    def test_lengths_and_sums(self):
        self.assertEqual(
            [Lengths("4+2 2 6").text, Lengths("2+ 1+2").text, Lengths("0 3+2").step, Lengths("0 3+2").start,
             Lengths("0 3+2").below, Lengths("0 3+2").cycle, 5 in Lengths("0 3+2"), Lengths("none").least],
            ['2+2', '1+', 2, 2, (0,), (3,), True, None])
        self.assertEqual(
            [both(Lengths("0+2"), Lengths("0+3")).text, union(Lengths("0+2"), Lengths("1+2")).text,
             without(Lengths("0+"), Lengths("2 4+3")).text, sums(Lengths("2+3"), Lengths("1 2")).text,
             shifted(Lengths("0 2+"), -1).text, parts(Lengths("5"), Lengths("1+")).text],
            ['0+6', '0+', '0 1 3+3 5+3', '3+3 4+3', '1+', '0 1 2 3 4'])
        self.assertEqual([Lengths("1+2").members(3), Lengths("1+2").counted(10), lies_in(Lengths("4+4"), Lengths("0+2"))],
                         [(1, 3, 5), 5, True])
        with self.assertRaises(errors.TooMany) as caught:
            Lengths("0+7 0+11")
        self.assertEqual(caught.exception.given, 77)

    def test_sayings_and_fits(self):
        s = Store((("x", 4), ("y", 2)), ((2, 7), (4, 2), (5, 5), (7, 2), (9, 0)))
        self.assertEqual(saying_tree("not ( some h : chain x h 1+ * x != y * rest )"),
                         ('not', ('picture', 'h', (('chain', 'x', 'h', '1+'), ('!=', 'x', 'y'), ('rest',)))))
        self.assertEqual(
            [shown_letters("( gone x * rest ) or ( chain y x 0+ )"),
             saying_text(("and", (("picture", "", (("=", "x", "END"),)), ("picture", "", (("rest",),)))))],
            ['xy', '( x = END ) and ( rest )'])
        ring = "some h : chain x h 0+ * chain h h 1+ * rest"
        self.assertEqual(
            [keeps(s, ring), placing(s, ring), chain_cells(s, ring, ((2,), (1, 2))),
             keeps(s, "chain x y 1 * chain y y 2"), keeps(s, "chain x y 1 * chain y y 2 * rest"),
             keeps(s, "lost 1+ * rest")],
            [True, ((2,), (1, 2)), ((4,), (2, 7)), False, True, True])
        with self.assertRaises(errors.UnknownName) as caught:
            keeps(s, "z = END * rest")
        self.assertEqual(caught.exception.given, 'z')

    def test_lots(self):
        rings = lot_of("some h : chain x h 0+ * chain h h 1+", "x")
        self.assertIs(has_plan(rings, Plan("x>1 ->1", (10 ** 30, 1), 0)), True)
        self.assertEqual(Lot("x", ()).boxes, ())
        # What the examples of later files tell of the same lots.
        lists = lot_of("chain x END 0+", "x")
        self.assertEqual(sorted({shape for shape, _, _ in lists.boxes}), ['x.', 'x>1 -.'])
        self.assertEqual(sorted({shape for shape, _, _ in rings.boxes}), ['x>0', 'x>1 ->1'])
        self.assertEqual([has_plan(every("x"), Plan("x>1 -.", (3,), 0)), has_plan(rings, Plan("x>1 -.", (3,), 0))],
                         [True, False])


if __name__ == "__main__":
    unittest.main()
