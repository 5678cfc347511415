"""Parts of stores, stores laid together, footprints and takings ([37] to [40])."""

import unittest
from random import Random

from arrowcells.fits import keeps
from arrowcells.programs import is_program, program_tree
from arrowcells.runs import run
from arrowcells.sayings import is_saying, saying_tree
from arrowcells.stores import Store, read_store
from arrowcells.takings import footprint, laid_together, part_with, part_without, takings
from tests.chosen import some_picture, some_program, some_straight
from tests.helpers import STORE, Asking, odd_values, small_stores, some_stores
from tests.naive import Walk, chain, leave_same, placings
from tests.test_programs import NO_PROGRAMS
from tests.test_runs import row_of
from tests.test_sayings import BAD

ROW = read_store("x=1 | 1>2 2>3 3>0")
WRONG_PLACES = [((0,), 0), ((4,), 0), ((1, 1), 1), ((2, 1), 1), ((1, 2, 4), 2), ((True,), 0), ((1, None), 1), ((1, "2"), 1), (([],), 0),
                ((-1,), 0), ((1000,), 0), ((10 ** 40,), 0), (((1,),), 0), ((3, 3), 1), ((1, 3, 2), 2), (("x",), 0)]


def parted(random, store):
    """A store in two parts that lie apart."""
    places = tuple(place for place, _ in store.cells if random.random() < 0.5)
    return part_with(store, places), part_without(store, places)


def naive_takings(store, tree):
    """The ascending tuple of the sets of cells that chains can have, as if `rest` stood in the picture."""
    _, hidden, items = tree
    told = ("picture", hidden, items if ("rest",) in items else items + (("rest",),))
    chains = [item for item in items if item[0] == "chain"]
    arrows, found = dict(store.cells), set()
    for places, lengths in placings(store.names, store.cells, told):
        at = {**dict(store.names), **dict(zip(hidden, places)), "END": 0}
        runs = [chain(arrows, at[first], at[second], many) for (_, first, second, _), many in zip(chains, lengths)]
        found.add(tuple(sorted(cell for cells in runs for cell in cells)))
    return tuple(sorted(found))


def some_wide_picture(random, names):
    """A picture that fits with many placings, if it fits."""
    hidden = random.choice(["h", "hk"])
    items = [f"chain {random.choice(names)} h {random.choice(['0+', '1+', '0+2'])}"]
    if hidden == "hk":
        items.append(f"chain {random.choice(['h', *names])} k {random.choice(['0+', '1+', '0 2'])}")
    if random.random() < 0.3:
        items.append(random.choice(["h != END", f"{hidden[-1]} != {names[-1]}", f"gone {hidden[-1]}", "lost 0", "lost 1+"]))
    if random.random() < 0.3:
        items.append(f"chain {random.choice(hidden)} {random.choice(hidden + names)} 0+")
    return f"some {' '.join(hidden)} : {' * '.join(items)}"


class PartTest(unittest.TestCase, Asking):
    def test_told_parts(self):
        self.assertEqual(part_with(ROW, (1, 3)).text, "x=1 | 1>2 3>0")
        self.assertEqual(part_without(ROW, (1, 3)).text, "x=1 | 2>3")
        self.assertTrue(part_with(ROW, (1, 3)).is_gone(2) and part_without(ROW, (1, 3)).is_gone(1))
        self.assertEqual((part_with(ROW, ()).text, part_without(ROW, ()).text), ("x=1 | none", ROW.text))
        self.assertEqual((part_with(places=(1, 2, 3), store=ROW), part_without(places=(1, 2, 3), store=ROW).text), (ROW, "x=1 | none"))
        self.assertEqual(part_with(read_store("x=0 y=9 | 4>4 999>1"), (4, 999)).text, "x=0 y=9 | 4>4 999>1")

    def test_parts_laid_together(self):
        random = Random(371)
        for store in some_stores(random, "xy", 200):
            first, second = parted(random, store)
            self.assertEqual((first.names, second.names), (store.names, store.names))
            self.assertEqual(set(first.cells) | set(second.cells), set(store.cells))
            self.assertEqual((laid_together(first, second), laid_together(second, first)), (store, store))

    def test_errors(self):
        for action in (part_with, part_without):
            for value in odd_values(but=(Store,)):
                self.asks("NotAStore", value, action, value, None)
            for value in odd_values(but=(tuple,)):
                self.points("InvalidCells", None, action, ROW, value)
            for value, index in WRONG_PLACES:
                self.points("InvalidCells", index, action, ROW, value)
            # A place that is gone is no place of a cell.
            self.points("InvalidCells", 1, action, read_store("x=5 | 1>7 9>1"), (1, 5))
            self.points("InvalidCells", 0, action, read_store("x=5 | 1>7 9>1"), (7, 9))


class LaidTogetherTest(unittest.TestCase, Asking):
    def test_told_stores(self):
        self.assertEqual(laid_together(read_store("x=1 | 2>3 5>1"), read_store("x=1 | 1>2 3>7")).text, "x=1 | 1>2 2>3 3>7 5>1")
        self.assertEqual(laid_together(other=ROW, store=read_store("x=1 | none")), ROW)
        half = Store((("x", 1),), tuple((cell, 0) for cell in range(1, 251)))
        rest = Store((("x", 1),), tuple((cell, 0) for cell in range(300, 550)))
        self.assertEqual(len(laid_together(half, rest).cells), 500)

    def test_errors(self):
        for value in odd_values(but=(Store,)):
            self.asks("NotAStore", value, laid_together, value, None)
            self.asks("NotAStore", value, laid_together, ROW, value)
        # The names are looked at as a whole, with their places.
        for text in ("x=2 | 1>2", "y=1 | 1>2", "x=1 y=1 | 1>2", "x=1 z=0 | none"):
            other = read_store(text)
            self.tells("OtherNames", {"names": ROW.names, "other": other.names}, laid_together, ROW, other)
            self.tells("OtherNames", {"names": other.names, "other": ROW.names}, laid_together, other, ROW)
        self.asks("NotApart", 2, laid_together, ROW, part_with(ROW, (2, 3)))
        self.asks("NotApart", 1, laid_together, ROW, ROW)
        self.asks("NotApart", 3, laid_together, ROW, read_store("x=1 | 3>9 7>0"))
        half = Store((("x", 1),), tuple((cell, 0) for cell in range(1, 251)))
        rest = Store((("x", 1),), tuple((cell, 0) for cell in range(300, 551)))
        self.asks("TooMany", 501, laid_together, half, rest)
        more = Store((("x", 1),), tuple((cell, 0) for cell in range(250, 551)))
        self.asks("NotApart", 250, laid_together, half, more)


class FrameTest(unittest.TestCase, Asking):
    def test_what_lies_apart_stays_as_it_is(self):
        # [38], also for loops; and it does not hold for runs that fail.
        random = Random(381)
        done = 0
        for _ in range(700):
            names = random.choice(["x", "xy"])
            program = some_program(random, list(names) + ["t"], random.randint(1, 6), 2)
            if not is_program(program):
                continue
            for store in some_stores(random, names, 3):
                part, other = parted(random, store)
                first = run(program, part, 60)
                if first.word != "done":
                    continue
                done += 1
                walk = Walk(store.names, store.cells, program_tree(program), 60)
                self.assertEqual((walk.word, walk.steps), ("done", first.steps))
                arrows = dict(walk.cells)
                self.assertEqual({place: arrows.get(place) for place, _ in other.cells}, dict(other.cells))
                alone = Walk(part.names, part.cells, program_tree(program), 60)
                walk.cells = tuple((place, to) for place, to in walk.cells if place not in dict(other.cells))
                walk.arrows = dict(walk.cells)
                if len(walk.made) <= 5:
                    self.assertTrue(leave_same(alone, walk), (program, store.text))
        self.assertGreater(done, 300)
        self.assertEqual(run("x = next x; x = next x", part_with(ROW, (1,)), 9).word, "fault")

    def test_told_footprints(self):
        for program, expected in (("x = next x; x = next x; next x = x", (1, 2, 3)), ("x = END", ()), ("none", ()), ("t = x; drop t", (1,)),
                                  ("t = next x; next t = END", (1, 2)), ("x = new; next x = x; drop x", ()), ("t = next x; x = next x", (1,)),
                                  ("if x = x { x = next x } else { drop x }", (1,)), ("t = next x; t = next t; drop x", (1, 2))):
            self.assertEqual(footprint(program, ROW), expected, program)
        self.assertEqual(footprint("next x = END; t = new; next t = t", read_store("x=7 | 7>0")), (7,))

    def test_footprints_at_random(self):
        # [39]: on the part with the footprint the run is done, without one of its cells it fails.
        random = Random(391)
        found = 0
        for _ in range(500):
            program = some_straight(random, "xy", 6)
            for store in some_stores(random, "xy", 3):
                told = run(program, store, 400)
                if told.word != "done":
                    continue
                cells = footprint(program, store)
                self.assertEqual(cells, tuple(place for place, _ in store.cells if place in told.reads + told.writes))
                alone = run(program, part_with(store, cells), 400)
                self.assertEqual((alone.word, alone.steps), ("done", told.steps))
                found += len(cells)
                for cell in cells:
                    self.assertEqual(run(program, part_without(part_with(store, cells), (cell,)), 400).word, "fault")
                    self.assertEqual(run(program, part_without(store, (cell,)), 400).word, "fault")
        self.assertGreater(found, 200)

    def test_errors(self):
        big = row_of(101)
        for value in NO_PROGRAMS + list(odd_values()):
            self.asks("InvalidProgram", value, footprint, value, None)
        self.tells("HasLoop", {}, footprint, "while a = b { none }", None)
        for value in odd_values(but=(Store,)):
            self.asks("NotAStore", value, footprint, "a = b; c = d", value)
        self.asks("TooMany", 5, footprint, "a = b; c = d", big)
        self.asks("TooMany", 101, footprint, "drop a; c = x", big)
        self.asks("Failed", 0, footprint, "drop a; c = x", row_of(100))
        self.asks("Failed", 3, footprint, "if x = END { drop x } else { x = next x; x = END }; x = next x", ROW)
        self.assertEqual(footprint(store=row_of(100), program="drop x"), (1,))


class TakingsTest(unittest.TestCase, Asking):
    def told(self, store, picture):
        """The places of the takings, behind a check of all that is told."""
        found = takings(store, picture)
        for places, part in found:
            self.assertEqual(part, part_without(store, places))
        return tuple(places for places, _ in found)

    def test_told_takings(self):
        self.assertEqual([part.text for _, part in takings(ROW, "some h : chain x h 1 2")], ["x=1 | 2>3 3>0", "x=1 | 3>0"])
        for picture, expected in (
                ("some h : chain x h 1 2", ((1,), (1, 2))), ("some h : chain x h 0+", ((), (1,), (1, 2), (1, 2, 3))), ("chain x END 3", ((1, 2, 3),)),
                ("chain x END 2", ()), ("rest", ((),)), ("x != END", ((),)), ("x = END", ()), ("gone x", ()), ("chain x END 0+ * rest", ((1, 2, 3),)),
                ("some h k : chain x h 1 * chain h k 1+ * k != END", ((1, 2),)),
                # Several placings have the same taking.
                ("some h k : chain x h 0+ * chain h k 0+ * k = END", ((1, 2, 3),)), ("chain x x 0+", ((),)),
                # What is lost or gone in the whole store counts.
                ("some h : chain x h 1 * lost 0", ((1,),)), ("some h : chain x h 1 * lost 1+", ()), ("some h : chain x h 0+ * gone h", ())):
            self.assertEqual(self.told(ROW, picture), expected, picture)
        ring = read_store("x=4 y=2 | 2>7 4>2 5>8 7>2")
        self.assertEqual(self.told(ring, "some h : chain x h 0+ * chain h h 0+"), ((), (2, 4), (2, 4, 7), (4,)))
        self.assertEqual(self.told(ring, "chain y y 1+"), ((2, 7),))
        self.assertEqual(self.told(ring, "chain y y 0+"), ((), (2, 7)))
        self.assertEqual(self.told(ring, "lost 1 * chain x y 1"), ((4,),))
        self.assertEqual(self.told(ring, "lost 0 * chain x y 1"), ())
        self.assertEqual(self.told(read_store("x=1 y=2 | 1>2 3>2"), "some h : chain x h 1 * gone h * y = h"), ((1,),))

    def test_small_stores(self):
        pictures = [text for text in ("some h : chain x h 0+", "some h : chain x h 1+ * chain h h 1+", "some h k : chain x h 0+ * chain h k 1+",
                                      "some h : chain x h 1+ * x != h", "chain x END 0+ * lost 0", "some h : chain x h 0+ * gone h")]
        for store in small_stores("x", (1, 2, 3), 4):
            for picture in pictures:
                self.assertEqual(self.told(store, picture), naive_takings(store, saying_tree(picture)), (store.text, picture))

    def test_at_random(self):
        random = Random(401)
        many = 0
        for _ in range(500):
            names = random.choice(["x", "xy"])
            picture = some_wide_picture(random, names) if random.random() < 0.7 else some_picture(random, names, 2, 3)
            self.assertTrue(is_saying(picture))
            for store in some_stores(random, names, 2):
                found = self.told(store, picture)
                self.assertEqual(found, naive_takings(store, saying_tree(picture)), (store.text, picture))
                many += len(found) > 1
                if "rest" in picture.split(" "):
                    self.assertIs(keeps(store, picture), found != ())
        self.assertGreater(many, 100)

    def test_stores_with_many_cells(self):
        store = row_of(40)
        self.assertEqual(len(takings(store, "some h : chain x h 0+")), 41)
        self.assertEqual(len(takings(store, "some h k : chain x h 3+ * chain h k 2+4")), 41 - 5)
        everything = takings(store, "some h k : chain x h 0+ * chain h k 0+ * chain k END 0+")
        self.assertEqual([(places, part.text) for places, part in everything], [(tuple(range(1, 41)), "x=1 | none")])

    def test_errors(self):
        big = row_of(41)
        for value in odd_values(but=(Store,)):
            self.asks("NotAStore", value, takings, value, None)
        for value in list(odd_values()) + BAD + ["not ( rest )", "( rest ) and ( rest )", "( rest ) or ( x = END )"]:
            self.asks("InvalidSaying", value, takings, big, value)
        self.asks("UnknownName", "a", takings, big, "z = x * gone a * rest")
        self.asks("UnknownName", "y", takings, STORE, "chain x y 1")
        self.asks("TooMany", 41, takings, big, "rest")
        self.assertEqual(takings(picture="rest", store=row_of(40)), (((), row_of(40)),))


if __name__ == "__main__":
    unittest.main()
