"""The examples of the interface, as they stand in the document."""

import unittest

from arrowcells import errors, walkers
from arrowcells.benches import Bench
from arrowcells.broken import broken, is_kept, leaking
from arrowcells.certificates import certify_inside, certify_kept
from arrowcells.checker import accepts
from arrowcells.consoles import Console
from arrowcells.countings import place_of, store_at, stores_number
from arrowcells.ahead import weakest
from arrowcells.differ import differing, leave_same
from arrowcells.farruns import far_run, turns
from arrowcells.fits import chain_cells, keeps, placing
from arrowcells.images import failing, image
from arrowcells.inside import follows, is_same, least_plan, parting_store, shapes_in
from arrowcells.lengths import Lengths
from arrowcells.listed import plan_at, plans_number, plans_of_size
from arrowcells.lots import Lot, every, has_plan, lot_of
from arrowcells.lostcells import arrows_into, counted, counted_run, lost_rings, swept, unasked
from arrowcells.lotsums import either, meet, minus, passing
from arrowcells.planruns import plan_run
from arrowcells.plans import Plan, knots_of, plan_of, store_of, stretches_of
from arrowcells.programs import deeds_of, program_tree
from arrowcells.promises import found_promise, loop_text, promise_broken, way_cells, wide
from arrowcells.runs import done, run
from arrowcells.sayings import saying_text, saying_tree, shown_letters
from arrowcells.shapes import knot_words, shapes, stretches_on_way
from arrowcells.stores import Store, read_store
from arrowcells.sums import both, lies_in, parts, shifted, sums, union, without
from arrowcells.takings import footprint, laid_together, part_with, part_without, takings
from arrowcells.walkers import doubling_steps, meeting_place, meets_always, missed_track, stop_at, track_of
from arrowcells.ways import lost, tail_and_ring, way, way_end
from arrowcells.weavings import touching, weaving_to, weavings, woven


class ExamplesTest(unittest.TestCase):
    def test_stores_and_plans(self):
        s = Store((("x", 4), ("y", 2)), ((2, 7), (4, 2), (5, 5), (7, 2), (9, 0)))
        self.assertEqual(
            [s.text, way(s, "x"), way_end(s, "x"), tail_and_ring(s, "x"), tail_and_ring(s, "y"), lost(s)],
            ['x=4 y=2 | 2>7 4>2 5>5 7>2 9>0', (4, 2, 7), 2, (1, 2), (0, 2), (5, 9)])
        self.assertEqual(
            [plan_of(s).text, knots_of(s), stretches_of(s), store_of(plan_of(s)).text],
            ['x>1 y>1 | 1 2 | 2', (4, 2), ((4,), (2, 7)), 'x=1 y=2 | 1>2 2>3 3>2 4>0 5>0'])
        self.assertEqual(
            [plan_of(read_store("x=3 y=0 | 1>8 3>1")).text, shapes("x"), len(shapes("xy")),
             knot_words("x>1 ->2 -. y>1"), stretches_on_way("x>1 ->2 -. y>1", "y")],
            ['x>1 -! y. | 2 | 0', ('x!', 'x.', 'x>0', 'x>1 -!', 'x>1 -.', 'x>1 ->1'), 60,
             (('x', '>', 1), ('', '>', 2), ('', '.', None), ('y', '>', 1)), (3, 1)])
        with self.assertRaises(errors.InvalidLengths) as caught:
            Plan("x>1 -.", (0,), 0)
        self.assertEqual(caught.exception.given, (0,))

    def test_lengths_and_sums(self):
        self.assertEqual(
            [Lengths("4+2 2 6").text, Lengths("2+ 1+2").text, Lengths("0 3+2").step, Lengths("0 3+2").start,
             Lengths("0 3+2").below, Lengths("0 3+2").cycle, 5 in Lengths("0 3+2"), Lengths("none").least],
            ['2+2', '1+', 2, 2, (0,), (3,), True, None])
        self.assertEqual(
            [both(Lengths("0+2"), Lengths("0+3")).text, union(Lengths("0+2"), Lengths("1+2")).text,
             without(Lengths("0+"), Lengths("2 4+3")).text, sums(Lengths("2+3"), Lengths("1 2")).text,
             shifted(Lengths("0 2+"), -1).text, parts(Lengths("5"), Lengths("1+")).text],
            ['0+6', '0+', '0 1 3+3 5+3', '3+3 4+3', '1+', '0 1 2 3 4'])
        self.assertEqual([Lengths("1+2").members(3), Lengths("1+2").counted(10), lies_in(Lengths("4+4"), Lengths("0+2"))],
                         [(1, 3, 5), 5, True])
        with self.assertRaises(errors.TooMany) as caught:
            Lengths("0+7 0+11")
        self.assertEqual(caught.exception.given, 77)

    def test_sayings_and_fits(self):
        s = Store((("x", 4), ("y", 2)), ((2, 7), (4, 2), (5, 5), (7, 2), (9, 0)))
        self.assertEqual(saying_tree("not ( some h : chain x h 1+ * x != y * rest )"),
                         ('not', ('picture', 'h', (('chain', 'x', 'h', '1+'), ('!=', 'x', 'y'), ('rest',)))))
        self.assertEqual(
            [shown_letters("( gone x * rest ) or ( chain y x 0+ )"),
             saying_text(("and", (("picture", "", (("=", "x", "END"),)), ("picture", "", (("rest",),)))))],
            ['xy', '( x = END ) and ( rest )'])
        ring = "some h : chain x h 0+ * chain h h 1+ * rest"
        self.assertEqual(
            [keeps(s, ring), placing(s, ring), chain_cells(s, ring, ((2,), (1, 2))),
             keeps(s, "chain x y 1 * chain y y 2"), keeps(s, "chain x y 1 * chain y y 2 * rest"),
             keeps(s, "lost 1+ * rest")],
            [True, ((2,), (1, 2)), ((4,), (2, 7)), False, True, True])
        with self.assertRaises(errors.UnknownName) as caught:
            keeps(s, "z = END * rest")
        self.assertEqual(caught.exception.given, 'z')

    def test_lots(self):
        lists, rings = lot_of("chain x END 0+", "x"), lot_of("some h : chain x h 0+ * chain h h 1+", "x")
        self.assertEqual(
            [shapes_in(lists), shapes_in(rings), plans_number(lists, 4), plans_number(rings, 4), plans_number(every("x"), 1),
             plans_of_size(rings, 2)[0].text, plans_of_size(rings, 2)[1].text],
            [('x.', 'x>1 -.'), ('x>0', 'x>1 ->1'), 1, 4, 5, 'x>0 | 2 | 0', 'x>1 ->1 | 1 1 | 0'])
        self.assertEqual(
            [least_plan(minus(every("x"), either(lists, rings))).text, is_same(meet(lists, rings), Lot("x", ())),
             has_plan(rings, Plan("x>1 ->1", (10 ** 30, 1), 0)), plan_at(lists, 3).text],
            ['x! | none | 0', True, True, 'x>1 -. | 3 | 0'])
        self.assertEqual(
            [follows("chain x END 2+2", "chain x END 0+2", "x"), parting_store("chain x END 0+2", "chain x END 2+2", "x").text,
             parting_store("chain x y 1+ * rest", "x != y * rest", "xy").text],
            [True, 'x=0 | none', 'x=1 y=1 | 1>1'])
        same = plans_of_size(passing(every("xy"), "x = y and x != END"), 1)
        self.assertEqual([len(same), same[0].text, same[1].text, same[2].text, same[3].text],
                         [4, 'xy! | none | 1', 'xy>0 | 1 | 0', 'xy>1 -! | 1 | 0', 'xy>1 -. | 1 | 0'])

    def test_programs_and_runs(self):
        turn = "while x != END { t = next x; next x = y; y = x; x = t }"
        self.assertEqual(program_tree("if x = y or x = END { drop x }"),
                         (('if', ('or', (('=', 'x', 'y'), ('=', 'x', 'END'))), (('drop', 'x'),), ()),))
        three = read_store("x=1 y=0 | 1>2 2>3 3>0")
        r = run(turn, three, 400)
        self.assertEqual(
            [r.word, r.store.text, r.steps, r.reads, r.writes, r.asks, r.sets, deeds_of(turn)[0]],
            ['done', 'x=0 y=3 | 1>0 2>1 3>2', 16, (1, 2, 3), (1, 2, 3), 'xy', 'xy', ('next', 't', 'x')])
        self.assertEqual(
            [run(turn, three, 5).word, run(turn, three, 5).store.text, run("drop x; x = next x", three, 9).deed,
             done(three, ("new", "y")).text],
            ['long', 'x=2 y=1 | 1>0 2>3 3>0', 1, 'x=1 y=4 | 1>2 2>3 3>0 4>0'])
        q = plan_run(turn, Plan("x>1 ->1 y.", (1, 2), 0), 400)
        self.assertEqual([q.word, q.plan.text, q.steps], ['done', 'x. y>2 ->2 | 1 2 | 0', 26])

    def test_what_programs_do_to_lots(self):
        lists = lot_of("chain x END 0+", "x")
        pop = "t = next x; drop x; x = t"
        self.assertEqual(
            [plans_number(image(lists, pop), 0), plans_of_size(image(lists, pop), 0)[0].text, plans_number(image(lists, pop), 2),
             plans_of_size(image(lists, pop), 2)[0].text],
            [1, 'x. | none | 0', 1, 'x>1 -. | 2 | 0'])
        self.assertEqual(
            [least_plan(failing(lists, pop)).text, is_kept("x", "chain x END 3+2", pop, "chain x END 2+2"),
             broken(lists, pop, lists).text, least_plan(weakest(pop, "chain x END 2", "x")).text],
            ['x. | none | 0', True, 'x. | none | 0', 'x>1 -. | 3 | 0'])
        self.assertIs(is_same(weakest(pop, "chain x END 2", "x"), lot_of("chain x END 3", "x")), True)
        self.assertEqual(
            [leaking(lists, "x = next x").text, leaking(lists, pop),
             differing("x = next x; x = next x", "t = next x; x = next t", lists), differing("y = next x", "y = x", every("xy")).text],
            ['x>1 -. | 1 | 0', None, None, 'x! y! | none | 0'])
        self.assertIs(leave_same("x = next x; x = next x", "t = next x; x = next t", read_store("x=1 | 1>2 2>0")), True)

    def test_far_runs(self):
        turn = "while x != END { t = next x; next x = y; y = x; x = t }"
        far = far_run(turn, Plan("x>1 -. y>1", (10 ** 30, 5), 2))
        self.assertEqual(
            [far.word, far.plan.text, far.steps == 5 * 10 ** 30 + 1, turns(turn, Plan("x>1 -. y>1", (10 ** 30, 5), 2)) == (10 ** 30,)],
            ['done', 'x. y>0 | 1000000000000000000000000000005 | 2', True, True])
        self.assertEqual(
            [far_run("while x != END { x = next x }", Plan("x>0", (7,), 0)).word,
             far_run("while x != y { x = next x }", Plan("x>1 -. y!", (10 ** 20,), 0)).word,
             far_run("while x != y { x = next x }", Plan("x>1 -. y!", (10 ** 20,), 0)).plan.text],
            ['endless', 'fault', 'x. y! | none | 100000000000000000000'])

    def test_promises(self):
        lists = lot_of("chain x END 0+", "x")
        two, body = lot_of("chain x END 0+ * chain y END 0+", "xy"), "t = next x; next x = y; y = x; x = t"
        self.assertEqual(
            [promise_broken(two, "x != END", body, two, lot_of("x = END * chain y END 0+", "xy"), (("x", 1),)),
             promise_broken(two, "x != END", body, two, two, (("y", 1),))[0], loop_text("xy", "x != END", "t = next x; x = t")],
            [None, 'fall', 'while x != END { t = END; t = next x; x = t }'])
        self.assertEqual(
            [is_same(found_promise(lot_of("chain x END 3 * chain y END 1", "xy"), "x != END", body), two),
             promise_broken(lists, "x != END", "x = next x", lists, lists, None)[1].text],
            [False, 'x>1 -. | 1 | 0'])
        wider = plans_of_size(wide(lot_of("chain x END 2 5", "x")), 3)
        self.assertEqual([len(wider), wider[0].text, wider[1].text, way_cells(Plan("x>1 ->1", (3, 2), 0), "x")],
                         [2, 'x>1 -. | 2 | 1', 'x>1 -. | 3 | 0', 5])

    def test_walkers(self):
        self.assertEqual([stop_at(3, 4, 2), stop_at(3, 4, 6), stop_at(3, 4, 7), stop_at(3, 4, 10 ** 30)], [2, 6, 3, 4])
        self.assertEqual(
            [walkers.meet(3, 4, 1, 2, 0), walkers.meet(0, 1, 1, 2, 0), walkers.meet(5, 6, 1, 3, 1), walkers.meet(5, 6, 1, 3, 2),
             walkers.meet(7, 2, 0, 0, 0), walkers.meet(1, 5, 0, 2, 0)],
            [4, 1, None, 5, 1, None])
        self.assertEqual(
            [meets_always(1, 2, 7), meets_always(1, 3, 1), missed_track(1, 3, 1), missed_track(0, 5, 0), missed_track(2, 2, 6), missed_track(1, 2, 0)],
            [True, False, (0, 2), (1, 1), (0, 4), None])
        self.assertEqual(
            [doubling_steps(3, 4), doubling_steps(0, 1), doubling_steps(4, 1), track_of(read_store("x=1 y=0 | 1>2 2>3 3>2"), "x"),
             meeting_place(read_store("x=1 | 1>2 2>3 3>2"), "x", 1, 2, 0)],
            [7, 1, 8, (1, 2), 3])

    def test_takings(self):
        row = read_store("x=1 | 1>2 2>3 3>0")
        self.assertEqual(
            [part_with(row, (1, 3)).text, part_without(row, (1, 3)).text, laid_together(part_with(row, (2,)), part_with(row, (1, 3))).text,
             footprint("x = next x; x = next x; next x = x", row), footprint("x = END", row)],
            ['x=1 | 1>2 3>0', 'x=1 | 2>3', 'x=1 | 1>2 2>3 3>0', (1, 2, 3), ()])
        taken = takings(row, "some h : chain x h 1 2")
        self.assertEqual(
            [len(taken), taken[0][0], taken[1][0], taken[1][1].text, len(takings(row, "some h : chain x h 0+")),
             takings(row, "chain x END 3")[0][1].text, takings(row, "chain x END 2")],
            [2, (1,), (1, 2), 'x=1 | 3>0', 4, 'x=1 | none', ()])
        with self.assertRaises(errors.NotApart) as caught:
            laid_together(row, part_with(row, (2, 3)))
        self.assertEqual(caught.exception.given, 2)

    def test_weavings(self):
        one = read_store("x=1 | 1>0")
        self.assertEqual(
            [weavings("next x = x", "next x = END", one), weaving_to("next x = x", "next x = END", one, "x>0 | 1 | 0"),
             woven("next x = x", "next x = END", one, (0, 0, 0)), woven("next x = x", "next x = END", one, (1,))],
            [('x>0 | 1 | 0', 'x>1 -. | 1 | 0'), (1, 0), 'x>1 -. | 1 | 0', 'x>0 | 1 | 0'])
        self.assertEqual([weavings("drop x", "y = next x", one), weaving_to("drop x", "y = next x", one, "fault"),
                          weaving_to("drop x", "y = next x", one, "none")],
                         [('fault', 'x! | none | 0'), (0, 1), None])
        self.assertEqual([touching("x = END", "x = END", one), weavings("x = END", "x = END", one),
                          touching("y = new; next y = x", "z = new; drop z", one)],
                         [True, ('x. | none | 1',), False])

    def test_lost_cells(self):
        heap = read_store("x=1 | 1>0 2>3 3>2 4>2 5>4")
        self.assertEqual([arrows_into(heap, 2), arrows_into(heap, 1), unasked(heap), lost_rings(heap), counted(heap).text, swept(heap).text],
                         [2, 0, (5,), ((2, 3),), 'x=1 | 1>0 2>3 3>2', 'x=1 | 1>0'])
        self.assertEqual([counted_run("x = next x", heap, 10).store.text, counted_run("y = x; next y = y; x = END", heap, 10).store.text],
                         ['x=0 | 2>3 3>2', 'x=0 | 1>1 2>3 3>2'])

    def test_countings(self):
        self.assertEqual([stores_number(every("x"), 0), stores_number(every("x"), 1), stores_number(every("x"), 2), stores_number(every("xy"), 2)],
                         [1, 4, 27, 81])
        self.assertEqual([store_at(every("x"), 1, 0).text, store_at(every("x"), 1, 1).text, store_at(every("x"), 1, 2).text, store_at(every("x"), 1, 3).text],
                         ['x=0 | 1>0', 'x=0 | 1>1', 'x=1 | 1>1', 'x=1 | 1>0'])
        self.assertEqual([place_of(every("x"), read_store("x=1 | 1>0")), place_of(every("x"), read_store("x=1 | 2>0")),
                          place_of(every("x"), read_store("x=2 | 1>2 2>1"))], [3, None, 16])

    def test_benches_and_consoles(self):
        bench = Bench(read_store("x=1 y=0 | 1>2 2>0"))
        bench.wish("lost 0 * rest")
        bench.do(("next", "y", "x"))
        bench.do(("tie", "x", "END"))
        bench.run("next y = x; x = y")
        self.assertEqual([bench.now.text, bench.undo(), bench.now.text, len(bench), bench.log],
                         ['x=2 y=2 | 1>0 2>1', None, 'x=1 y=2 | 1>0 2>0', 3, ('wish lost 0 * rest', 'do y = next x', 'do next x = END')])
        console = Console(bench)
        self.assertEqual([console.say("plan"), console.say("keeps x = y * rest"), console.say("do next x = y"), console.say("now"), console.say("many")],
                         ['x>1 -. y>1 | 1 1 | 0', 'no', 'done', 'x=1 y=2 | 1>2 2>0', '4'])
        with self.assertRaises(errors.Broken) as caught:
            bench.do(("copy", "x", "y"))
        self.assertEqual(caught.exception.index, 0)

    def test_checker_and_certificates(self):
        self.assertEqual(
            [accepts(("fits", "x=1 y=2 | 1>2 2>0", "some h : chain x y 1 * chain y h 1+ * h = END"), ((0,), (1, 1))),
             accepts(("outside", "x", "chain x END 0+ * rest", "chain x END 0+2 * rest"), "x=1 | 1>0"),
             accepts(("run", "y = next x; next x = END", "x=1 y=0 | 1>2 2>0", "x=1 y=2 | 1>0 2>0"), ("x=1 y=2 | 1>2 2>0", "x=1 y=2 | 1>0 2>0")),
             accepts(("alike", "x=1 | 1>2 2>0", "x=5 | 2>0 5>2"), ((1, 5), (2, 2)))],
            [True, True, True, True])
        self.assertEqual(
            [accepts(("broken", "x", "chain x END 0+", "x = next x", "rest"), "x=0 | none"), accepts(("meet", 3, 4, 1, 2, 0, 4), 1),
             accepts(("meet", 3, 4, 1, 2, 0, 2), 1), certify_inside("x", "chain x END 1", "chain x END 0+")],
            [True, True, False, (('inside', 'x', 'chain x END 1', 'chain x END 0+'), ())])
        self.assertEqual(certify_kept("x", "chain x END 1+", "x = next x", "chain x END 0+"),
                         (('broken', 'x', 'chain x END 1+', 'x = next x', 'chain x END 0+'), 'x=1 | 1>0'))


if __name__ == "__main__":
    unittest.main()
