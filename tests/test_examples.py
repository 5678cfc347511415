"""The examples of the interface, as they stand in the document."""

import unittest

from arrowcells import errors
from arrowcells.broken import broken, is_kept, leaking
from arrowcells.ahead import weakest
from arrowcells.differ import differing, leave_same
from arrowcells.fits import chain_cells, keeps, placing
from arrowcells.images import failing, image
from arrowcells.inside import follows, is_same, least_plan, parting_store, shapes_in
from arrowcells.lengths import Lengths
from arrowcells.listed import plan_at, plans_number, plans_of_size
from arrowcells.lots import Lot, every, has_plan, lot_of
from arrowcells.lotsums import either, meet, minus, passing
from arrowcells.planruns import plan_run
from arrowcells.plans import Plan, knots_of, plan_of, store_of, stretches_of
from arrowcells.programs import deeds_of, program_tree
from arrowcells.runs import done, run
from arrowcells.sayings import saying_text, saying_tree, shown_letters
from arrowcells.shapes import knot_words, shapes, stretches_on_way
from arrowcells.stores import Store, read_store
from arrowcells.sums import both, lies_in, parts, shifted, sums, union, without
from arrowcells.ways import lost, tail_and_ring, way, way_end


class ExamplesTest(unittest.TestCase):
    def test_stores_and_plans(self):
        s = Store((("x", 4), ("y", 2)), ((2, 7), (4, 2), (5, 5), (7, 2), (9, 0)))
        self.assertEqual(
            [s.text, way(s, "x"), way_end(s, "x"), tail_and_ring(s, "x"), tail_and_ring(s, "y"), lost(s)],
            ['x=4 y=2 | 2>7 4>2 5>5 7>2 9>0', (4, 2, 7), 2, (1, 2), (0, 2), (5, 9)])
        self.assertEqual(
            [plan_of(s).text, knots_of(s), stretches_of(s), store_of(plan_of(s)).text],
            ['x>1 y>1 | 1 2 | 2', (4, 2), ((4,), (2, 7)), 'x=1 y=2 | 1>2 2>3 3>2 4>0 5>0'])
        self.assertEqual(
            [plan_of(read_store("x=3 y=0 | 1>8 3>1")).text, shapes("x"), len(shapes("xy")),
             knot_words("x>1 ->2 -. y>1"), stretches_on_way("x>1 ->2 -. y>1", "y")],
            ['x>1 -! y. | 2 | 0', ('x!', 'x.', 'x>0', 'x>1 -!', 'x>1 -.', 'x>1 ->1'), 60,
             (('x', '>', 1), ('', '>', 2), ('', '.', None), ('y', '>', 1)), (3, 1)])
        with self.assertRaises(errors.InvalidLengths) as caught:
            Plan("x>1 -.", (0,), 0)
        self.assertEqual(caught.exception.given, (0,))

    def test_lengths_and_sums(self):
        self.assertEqual(
            [Lengths("4+2 2 6").text, Lengths("2+ 1+2").text, Lengths("0 3+2").step, Lengths("0 3+2").start,
             Lengths("0 3+2").below, Lengths("0 3+2").cycle, 5 in Lengths("0 3+2"), Lengths("none").least],
            ['2+2', '1+', 2, 2, (0,), (3,), True, None])
        self.assertEqual(
            [both(Lengths("0+2"), Lengths("0+3")).text, union(Lengths("0+2"), Lengths("1+2")).text,
             without(Lengths("0+"), Lengths("2 4+3")).text, sums(Lengths("2+3"), Lengths("1 2")).text,
             shifted(Lengths("0 2+"), -1).text, parts(Lengths("5"), Lengths("1+")).text],
            ['0+6', '0+', '0 1 3+3 5+3', '3+3 4+3', '1+', '0 1 2 3 4'])
        self.assertEqual([Lengths("1+2").members(3), Lengths("1+2").counted(10), lies_in(Lengths("4+4"), Lengths("0+2"))],
                         [(1, 3, 5), 5, True])
        with self.assertRaises(errors.TooMany) as caught:
            Lengths("0+7 0+11")
        self.assertEqual(caught.exception.given, 77)

    def test_sayings_and_fits(self):
        s = Store((("x", 4), ("y", 2)), ((2, 7), (4, 2), (5, 5), (7, 2), (9, 0)))
        self.assertEqual(saying_tree("not ( some h : chain x h 1+ * x != y * rest )"),
                         ('not', ('picture', 'h', (('chain', 'x', 'h', '1+'), ('!=', 'x', 'y'), ('rest',)))))
        self.assertEqual(
            [shown_letters("( gone x * rest ) or ( chain y x 0+ )"),
             saying_text(("and", (("picture", "", (("=", "x", "END"),)), ("picture", "", (("rest",),)))))],
            ['xy', '( x = END ) and ( rest )'])
        ring = "some h : chain x h 0+ * chain h h 1+ * rest"
        self.assertEqual(
            [keeps(s, ring), placing(s, ring), chain_cells(s, ring, ((2,), (1, 2))),
             keeps(s, "chain x y 1 * chain y y 2"), keeps(s, "chain x y 1 * chain y y 2 * rest"),
             keeps(s, "lost 1+ * rest")],
            [True, ((2,), (1, 2)), ((4,), (2, 7)), False, True, True])
        with self.assertRaises(errors.UnknownName) as caught:
            keeps(s, "z = END * rest")
        self.assertEqual(caught.exception.given, 'z')

    def test_lots(self):
        lists, rings = lot_of("chain x END 0+", "x"), lot_of("some h : chain x h 0+ * chain h h 1+", "x")
        self.assertEqual(
            [shapes_in(lists), shapes_in(rings), plans_number(lists, 4), plans_number(rings, 4), plans_number(every("x"), 1),
             plans_of_size(rings, 2)[0].text, plans_of_size(rings, 2)[1].text],
            [('x.', 'x>1 -.'), ('x>0', 'x>1 ->1'), 1, 4, 5, 'x>0 | 2 | 0', 'x>1 ->1 | 1 1 | 0'])
        self.assertEqual(
            [least_plan(minus(every("x"), either(lists, rings))).text, is_same(meet(lists, rings), Lot("x", ())),
             has_plan(rings, Plan("x>1 ->1", (10 ** 30, 1), 0)), plan_at(lists, 3).text],
            ['x! | none | 0', True, True, 'x>1 -. | 3 | 0'])
        self.assertEqual(
            [follows("chain x END 2+2", "chain x END 0+2", "x"), parting_store("chain x END 0+2", "chain x END 2+2", "x").text,
             parting_store("chain x y 1+ * rest", "x != y * rest", "xy").text],
            [True, 'x=0 | none', 'x=1 y=1 | 1>1'])
        same = plans_of_size(passing(every("xy"), "x = y and x != END"), 1)
        self.assertEqual([len(same), same[0].text, same[1].text, same[2].text, same[3].text],
                         [4, 'xy! | none | 1', 'xy>0 | 1 | 0', 'xy>1 -! | 1 | 0', 'xy>1 -. | 1 | 0'])

    def test_programs_and_runs(self):
        turn = "while x != END { t = next x; next x = y; y = x; x = t }"
        self.assertEqual(program_tree("if x = y or x = END { drop x }"),
                         (('if', ('or', (('=', 'x', 'y'), ('=', 'x', 'END'))), (('drop', 'x'),), ()),))
        three = read_store("x=1 y=0 | 1>2 2>3 3>0")
        r = run(turn, three, 400)
        self.assertEqual(
            [r.word, r.store.text, r.steps, r.reads, r.writes, r.asks, r.sets, deeds_of(turn)[0]],
            ['done', 'x=0 y=3 | 1>0 2>1 3>2', 16, (1, 2, 3), (1, 2, 3), 'xy', 'xy', ('next', 't', 'x')])
        self.assertEqual(
            [run(turn, three, 5).word, run(turn, three, 5).store.text, run("drop x; x = next x", three, 9).deed,
             done(three, ("new", "y")).text],
            ['long', 'x=2 y=1 | 1>0 2>3 3>0', 1, 'x=1 y=4 | 1>2 2>3 3>0 4>0'])
        q = plan_run(turn, Plan("x>1 ->1 y.", (1, 2), 0), 400)
        self.assertEqual([q.word, q.plan.text, q.steps], ['done', 'x. y>2 ->2 | 1 2 | 0', 26])

    def test_what_programs_do_to_lots(self):
        lists = lot_of("chain x END 0+", "x")
        pop = "t = next x; drop x; x = t"
        self.assertEqual(
            [plans_number(image(lists, pop), 0), plans_of_size(image(lists, pop), 0)[0].text, plans_number(image(lists, pop), 2),
             plans_of_size(image(lists, pop), 2)[0].text],
            [1, 'x. | none | 0', 1, 'x>1 -. | 2 | 0'])
        self.assertEqual(
            [least_plan(failing(lists, pop)).text, is_kept("x", "chain x END 3+2", pop, "chain x END 2+2"),
             broken(lists, pop, lists).text, least_plan(weakest(pop, "chain x END 2", "x")).text],
            ['x. | none | 0', True, 'x. | none | 0', 'x>1 -. | 3 | 0'])
        self.assertIs(is_same(weakest(pop, "chain x END 2", "x"), lot_of("chain x END 3", "x")), True)
        self.assertEqual(
            [leaking(lists, "x = next x").text, leaking(lists, pop),
             differing("x = next x; x = next x", "t = next x; x = next t", lists), differing("y = next x", "y = x", every("xy")).text],
            ['x>1 -. | 1 | 0', None, None, 'x! y! | none | 0'])
        self.assertIs(leave_same("x = next x; x = next x", "t = next x; x = next t", read_store("x=1 | 1>2 2>0")), True)


if __name__ == "__main__":
    unittest.main()
