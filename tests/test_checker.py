"""Claims and papers for the checker ([49])."""

import itertools
import unittest
from random import Random

from arrowcells.checker import accepts
from arrowcells.fits import is_placing, keeps
from arrowcells.plans import plan_of
from arrowcells.programs import is_program, program_tree
from arrowcells.promises import weight_of
from arrowcells.runs import holds, run
from arrowcells.sayings import saying_tree
from arrowcells.stores import Store, read_store
from tests.chosen import some_picture, some_program, some_sayings, some_straight, some_test
from tests.helpers import odd_values, some_stores
from tests.naive import Walk, are_matched, leave_same
from tests.naive import keeps as naive_keeps
from tests.naive import reached
from tests.test_programs import NO_PROGRAMS, NO_TESTS
from tests.test_promises import WRONG_WEIGHTS
from tests.test_runs import row_of
from tests.test_sayings import BAD

T = "x=1 y=2 | 1>2 2>0"
TURN = "t = next x; next x = y; y = x; x = t"
POP = "t = next x; drop x; x = t"
LISTS = "chain x END 0+ * chain y END 0+"
TURNED = "x = END * chain y END 0+"
HUGE = 10 ** 30

# Pairs of a claim and a paper that is accepted.
ACCEPTED = [
    (("fits", T, "some h : chain x y 1 * chain y h 1+ * h = END"), ((0,), (1, 1))),
    (("fits", "x=1 | 1>2 2>3 3>2", "some h : chain x h 0+ * chain h h 1+"), ((2,), (1, 2))),
    (("fits", "x=0 | 1>1", "rest"), ((), ())),
    (("keeps", T, "not ( gone x * rest )"), ()),
    (("keeps", T, "chain x END 2"), ()),
    (("keeps not", T, "( gone x * rest ) or ( x = y * rest )"), ()),
    (("keeps not", T, "chain x END 1"), ()),
    (("possible", "x", "lost 3 * gone x * rest"), "x=7 | 1>1 2>1 3>9"),
    (("possible", "wxyz", "( w = x * rest ) and ( y != z * rest )"), "w=1 x=1 y=2 z=0 | none"),
    (("outside", "x", "chain x END 0+ * rest", "chain x END 0+2 * rest"), "x=1 | 1>0"),
    (("outside", "wxyz", "rest", "w = END * rest"), "w=1 x=0 y=0 z=0 | none"),
    (("inside", "x", "chain x END 2+2", "chain x END 0+2"), ()),
    (("inside", "xy", "chain x y 2 * chain y END 1", "chain x END 3"), ()),
    (("run", "y = next x; next x = END", "x=1 y=0 | 1>2 2>0", "x=1 y=2 | 1>0 2>0"), ("x=1 y=2 | 1>2 2>0", "x=1 y=2 | 1>0 2>0")),
    (("run", "none", T, T), ()),
    (("run", "while x = END { none }; if x = y { drop x }", T, T), ()),
    (("run", "while x != END { t = next x; drop x; x = t }", "x=1 | 1>2 2>0", "x=0 | none"),
     ("x=1 | 1>2 2>0", "x=1 | 2>0", "x=2 | 2>0", "x=2 | 2>0", "x=2 | none", "x=0 | none")),
    (("alike", "x=1 | 1>2 2>0", "x=5 | 2>0 5>2"), ((1, 5), (2, 2))),
    (("alike", "x=1 y=9 | 1>7 3>3", "x=4 y=8 | 4>6 7>0"), ((1, 4),)),
    (("alike", "x=0 | 7>7", "x=0 | 1>0"), ()),
    (("unlike", "x=1 | 1>2 2>0", "x=1 | 1>2 2>1"), ()),
    (("unlike", "x=1 y=1 | none", "x=1 y=2 | none"), ()),
    (("broken", "x", "chain x END 0+", "x = next x", "rest"), "x=0 | none"),
    (("broken", "wxyz", "w = x * rest", "w = new", "w = x * rest"), "w=0 x=0 y=0 z=0 | none"),
    (("kept", "x", "chain x END 1+", POP, "chain x END 0+"), ()),
    (("kept", "xy", "chain x END 1+ * chain y END 0+", TURN, "chain x END 0+ * chain y END 1+"), ()),
    (("differ", "xy", "y = next x", "y = x", "rest"), "x=1 y=0 | 1>0"),
    (("differ", "abcd", "a = b", "a = c", "b != c * rest"), "a=0 b=0 c=1 d=0 | none"),
    (("same", "x", "x = next x; x = next x", "t = next x; x = next t", "rest"), ()),
    (("same", "x", "x = new; y = x", "t = new; x = t", "rest"), ()),
    (("leaks", "x", "chain x END 1+", "x = next x"), "x=1 | 1>0"),
    (("leaks", "abcd", "rest", "a = new; a = END"), "a=0 b=0 c=0 d=0 | none"),
    (("no leak", "x", "chain x END 0+ * rest", POP), ()),
    (("no leak", "xy", LISTS, TURN), ()),
    (("promise", "xy", LISTS, "x != END", TURN, LISTS, TURNED, (("x", 1),)), ()),
    (("promise", "xy", LISTS, "x != END", TURN, LISTS, TURNED, None), ()),
    (("no promise", "xy", LISTS, "x != END", TURN, TURNED, "rest", None), ("start", "x=1 y=0 | 1>0")),
    (("no promise", "x", "lost none", "x != END", "x = next x", "chain x END 0+", "rest", None), ("turn", "x=1 | 1>0")),
    (("no promise", "x", "lost none", "x != END", "drop x; drop x", "chain x END 0+", "rest", ()), ("turn", "x=1 | 1>2 2>0")),
    (("no promise", "xy", LISTS, "x != END", TURN, LISTS, "chain y END 2 * x = END", None), ("end", "x=0 y=1 | 1>0")),
    (("no promise", "xy", LISTS, "x != END", TURN, LISTS, TURNED, (("y", 1),)), ("fall", "x=1 y=0 | 1>0")),
    (("no promise", "xy", LISTS, "x != END", TURN, LISTS, TURNED, ()), ("fall", "x=1 y=2 | 1>0 2>0")),
    (("meet", 3, 4, 1, 2, 0, 4), 1),
    (("meet", 0, 1, 1, 1, 0, 10 ** 60), 0),
    (("meet", HUGE, 3, 1, HUGE, HUGE - 1, HUGE + 2), (HUGE - 1) // 3 * (HUGE + 3)),
    (("apart", 3, 4, 1, 2, 0, 2), ()),
    (("apart", HUGE, 3, 1, HUGE, 1, 10), ()),
]
WORDS = ["fits", "keeps", "keeps not", "possible", "outside", "inside", "run", "alike", "unlike", "broken", "kept", "differ", "same", "leaks",
         "no leak", "promise", "no promise", "meet", "apart"]
PAPERS = [(), 0, 1, 2, -1, True, None, "", "x=0 | none", "x=1 | 1>0", "x=1 | 1>1", "x=1 | none", "x=0 | 1>0", "x=0 y=0 | none", T, ((), ()),
          ((0,), ()), ((), (0,)), ((), (1,)), ((1, 1),), ((1, 1), (2, 2)), [], (T,), ("start", "x=1 | 1>0"), ("turn", "x=1 | 1>0"), ("end", "x=0 | none")]


class Yes:
    """Equal to anything."""

    __hash__ = None

    def __eq__(self, other):
        return True


class FormTest(unittest.TestCase):
    def refuses(self, claim, paper):
        self.assertIs(accepts(claim, paper), False, (claim, paper))

    def takes(self, claim, paper):
        self.assertIs(accepts(claim, paper), True, (claim, paper))

    def test_claims_that_are_so(self):
        for claim, paper in ACCEPTED:
            self.takes(claim, paper)
        self.assertEqual(sorted({claim[0] for claim, _ in ACCEPTED}), sorted(WORDS))
        self.assertIs(accepts(paper=(), claim=("keeps", T, "rest")), True)

    def test_papers_that_are_bent(self):
        for claim, paper in ACCEPTED:
            for value in list(odd_values()) + PAPERS:
                if not (type(value) is type(paper) and value == paper) and not self.may_do(claim, value):
                    self.refuses(claim, value)
            for bent in self.bent(paper):
                if not self.may_do(claim, bent):
                    self.refuses(claim, bent)

    def may_do(self, claim, value):
        """Whether a paper does for a claim as well as the one that is told: another placing, or another store."""
        if claim[0] == "fits":
            return is_placing(read_store(claim[1]), claim[2], value)
        if claim[0] not in ("possible", "outside", "broken", "differ", "leaks", "no promise"):
            return False
        return naively_shown(claim, value)

    def bent(self, paper):
        """Papers that are like a paper but for one part."""
        if isinstance(paper, bool) or paper is None:
            return
        if isinstance(paper, int):
            yield from (paper + 1, paper - 1, -paper - 1, str(paper), (paper,))
        if isinstance(paper, str):
            yield from (paper + " ", " " + paper, paper.replace("=", " = "), paper + " 9>0", (paper,), paper.replace("x", "q"), paper.encode())
            yield from (paper.replace("|", "| |"), paper[:-1], paper.replace(" | ", "|"))
        if isinstance(paper, tuple):
            yield list(paper)
            yield paper + (0,)
            yield paper + ((),)
            yield paper + paper if paper else ((),)
            for at in range(len(paper)):
                yield paper[:at] + paper[at + 1:]
                yield paper[:at] + (None,) + paper[at + 1:]
                yield paper[:at] + (True,) + paper[at + 1:]
                for part in self.bent(paper[at]):
                    yield paper[:at] + (part,) + paper[at + 1:]

    def test_claims_that_are_bent(self):
        for claim, paper in ACCEPTED:
            for value in (list(claim), claim[1:], claim[:-1], claim + ((),), claim + (None,), (claim,), claim[0], (claim[0],), claim[::-1]):
                self.refuses(value, paper)
            for word in WORDS + ["Fits", "keeps  not", "not keeps", "", " keeps", "keep"]:
                if word != claim[0]:
                    self.assertIn(accepts((word,) + claim[1:], paper), (True, False))
                    if word not in WORDS:
                        self.refuses((word,) + claim[1:], paper)
            for at in range(len(claim)):
                for value in odd_values():
                    bent = claim[:at] + (value,) + claim[at + 1:]
                    if not is_same(value, claim[at]) and not (claim[0] in ("promise", "no promise") and at == 7 and value in (None, ())):
                        if claim[0] in ("meet", "apart") and isinstance(value, int) and not isinstance(value, bool):
                            continue
                        self.refuses(bent, paper)

    def test_any_values(self):
        values = list(odd_values())
        for value in values:
            for other in values[:40]:
                self.refuses(value, other)
                self.refuses((value, other), ())
        for word in WORDS:
            for value in values:
                self.refuses((word, value, value), ())
                self.refuses((word, value, value, value), value)

    def test_values_that_are_equal_to_anything(self):
        # True is no number, and an object may say that it is equal to a part.
        one, other = "x=1 | 1>0", "x=5 | 5>0"
        self.takes(("alike", one, other), ((1, 5),))
        self.takes(("alike", other, one), ((5, 1),))
        for claim, papers in ((("alike", one, other), (((True, 5),), (Yes(),), ((1, Yes()),), ((Yes(), 5),), Yes())),
                              (("alike", other, one), (((5, True),), ((5, Yes()),))), (("run", "none", one, one), (Yes(), [])),
                              (("run", "x = x", one, one), ((Yes(),), Yes(), [one])), (("run", "drop x", "x=0 | none", "x=0 | none"), (None, (), Yes())),
                              (("run", "while x = x { none }", one, one), (None, (), Yes())), (("keeps", one, "rest"), (Yes(), [])),
                              (("fits", one, "chain x END 1"), (((), (True,)), ((), (Yes(),)), (Yes(), (1,)), ((), Yes()), Yes())),
                              (("possible", "x", "rest"), (Yes(), (one,))), (("meet", 0, 1, 1, 1, 0, 1), (False, Yes())),
                              (("meet", 0, 1, 1, 2, 0, 1), (True, Yes(), 1 << 1, -1)),
                              (("no promise", "x", "rest", "x != x", "none", "lost none", "rest", None), ((Yes(), one), ("start", Yes()), Yes(), (one, "start")))):
            for paper in papers:
                self.refuses(claim, paper)
        for claim in (("keeps", Yes(), "rest"), ("keeps", one, Yes()), (Yes(), one, "rest"), Yes(), ("possible", Yes(), "rest"), ("run", Yes(), one, one),
                      ("promise", "x", "rest", Yes(), "none", "rest", "rest", None), ("meet", 0, Yes(), 1, 1, 0, 1), ("meet", 0, 1, 1, 1, 0, Yes()),
                      ("promise", "x", "rest", "x != x", "none", "rest", "rest", Yes()), ("promise", "x", "rest", "x != x", "none", "rest", "rest", (Yes(),)),
                      ("promise", "x", "rest", "x != x", "none", "rest", "rest", (("x", Yes()),)),
                      ("promise", "x", "rest", "x != x", "none", "rest", "rest", ((Yes(), 1),))):
            for paper in ((), "x=0 | none", 0):
                self.refuses(claim, paper)

    def test_parts_of_the_wrong_form(self):
        swaps = {"saying": BAD, "program": NO_PROGRAMS + ["while x = x { none }"], "names": ["", "yx", "xx", "abcde", "X", "x y"]}
        sayings = {"fits": (2,), "keeps": (2,), "keeps not": (2,), "possible": (2,), "outside": (2, 3), "inside": (2, 3), "broken": (2, 4),
                   "kept": (2, 4), "differ": (4,), "same": (4,), "leaks": (2,), "no leak": (2,), "promise": (2, 5, 6), "no promise": (2, 5, 6)}
        programs = {"broken": (3,), "kept": (3,), "differ": (2, 3), "same": (2, 3), "leaks": (3,), "no leak": (3,), "promise": (4,),
                    "no promise": (4,)}
        for claim, paper in ACCEPTED:
            for places, bad in ((sayings, swaps["saying"]), (programs, swaps["program"]), ({"run": (1,)}, NO_PROGRAMS),
                                ({word: (1,) for word in programs}, swaps["names"]), ({"promise": (3,), "no promise": (3,)}, NO_TESTS),
                                ({"promise": (7,), "no promise": (7,)}, [value for value, _ in WRONG_WEIGHTS])):
                for at in places.get(claim[0], ()):
                    for value in bad:
                        self.refuses(claim[:at] + (value,) + claim[at + 1:], paper)
        for value, _ in WRONG_WEIGHTS:
            self.refuses(("promise", "xy", LISTS, "x != END", TURN, LISTS, TURNED, value), ())

    def test_letters_that_are_no_names(self):
        for claim, paper in ((("keeps", T, "not ( z = x * rest )"), ()), (("keeps not", T, "z = x * rest"), ()), (("fits", T, "gone z * rest"), ((), ())),
                             (("possible", "x", "not ( y = END )"), "x=0 | none"), (("inside", "x", "rest", "not ( y = END )"), ()),
                             (("outside", "x", "rest", "y = END * rest"), "x=0 | none"), (("kept", "x", "lost none", "none", "y = x"), ()),
                             (("broken", "x", "rest", "none", "y = x * rest"), "x=0 | none"), (("same", "x", "none", "none", "y = x"), ()),
                             (("differ", "x", "none", "x = new", "not ( y = x )"), "x=0 | none"), (("no leak", "x", "y = x", "none"), ()),
                             (("leaks", "x", "not ( y = x )", "x = new; x = END"), "x=0 | none"),
                             (("promise", "x", "lost none", "y != END", "none", "rest", "rest", None), ()),
                             (("promise", "x", "lost none", "x != x", "none", "rest", "y = y * rest", None), ()),
                             (("promise", "x", "lost none", "x != x", "none", "rest", "rest", (("y", 1),)), ()),
                             (("no promise", "x", "rest", "y = END", "none", "lost none", "rest", None), ("start", "x=0 | none"))):
            self.refuses(claim, paper)
        # Hidden letters are free.
        self.takes(("keeps", T, "some z : chain x z 1 * rest"), ())

    def test_names_of_stores(self):
        for text in ("x=1 | 1>0", "x=1 y=1 z=1 | none", "y=1 z=1 | none", "x=1  y=1 | none", "x=1 y=1|none", "x=01 y=1 | none"):
            self.refuses(("run", "none", T, text), ())
            self.refuses(("alike", T, text), ())
            self.refuses(("unlike", T, text), ())
            self.refuses(("unlike", text, T), ())
            self.refuses(("possible", "xy", "rest"), text)
            self.refuses(("outside", "xy", "rest", "lost none"), text)
            self.refuses(("broken", "xy", "rest", "none", "lost none"), text)
            self.refuses(("differ", "xy", "none", "x = new", "rest"), text)
            self.refuses(("leaks", "xy", "rest", "x = new; x = END"), text)
            self.refuses(("no promise", "xy", "rest", "x = x", "none", "lost none", "rest", None), ("start", text))
        self.takes(("leaks", "xy", "rest", "x = new; x = END"), "x=0 y=0 | none")

    def test_small(self):
        rows = [("inside", "NAMES", "rest", "rest"), ("kept", "NAMES", "rest", "none", "rest"), ("same", "NAMES", "none", "none", "rest"),
                ("no leak", "NAMES", "rest", "none"), ("promise", "NAMES", "rest", "a = END", "a = new", "rest", "rest", None)]
        for row in rows:
            for names, expected in (("a", True), ("ab", True), ("abc", False), ("abcd", False)):
                claim = tuple(names if part == "NAMES" else part for part in row)
                self.assertIs(accepts(claim, ()), expected, claim)
        self.refuses(("no promise", "abc", "rest", "a = a", "none", "lost none", "rest", None), ("start", "a=0 b=0 c=0 | none"))
        self.takes(("no promise", "ab", "rest", "a = a", "none", "lost none", "rest", None), ("start", "a=0 b=0 | none"))

    def test_few_letters(self):
        four, five = "y = x; z = x; t = x", "y = x; z = x; t = x; u = x"
        for program, expected in ((four, True), (five, False)):
            for claim, paper in ((("run", program, "x=0 | none", "x=0 | none"), ("x=0 | none",) * (program.count(";") + 1)),
                                 (("broken", "x", "rest", program, "lost none"), "x=0 | none"), (("kept", "x", "rest", program, "rest"), ()),
                                 (("differ", "x", program, "x = new", "rest"), "x=0 | none"), (("differ", "x", "x = new", program, "rest"), "x=0 | none"),
                                 (("same", "x", program, "none", "rest"), ()), (("same", "x", "none", program, "rest"), ()),
                                 (("leaks", "x", "rest", f"{program}; y = new"), "x=0 | none"), (("no leak", "x", "rest", program), ()),
                                 (("promise", "x", "lost none", "x != x", program, "rest", "rest", None), ()),
                                 (("no promise", "x", "rest", "x = x", program, "lost none", "rest", None), ("start", "x=0 | none"))):
                self.assertIs(accepts(claim, paper), expected, claim)
        # Each program has its own letters.
        self.takes(("same", "x", four, "a = x; b = x; c = x", "rest"), ())

    def test_bounds_of_runs(self):
        text, end = row_of(100).text, "x=0" + row_of(100).text[3:]
        self.takes(("run", "x = END", text, end), (end,))
        text, end = row_of(101).text, "x=0" + row_of(101).text[3:]
        self.refuses(("run", "x = END", text, end), (end,))
        self.refuses(("run", "none", text, text), ())
        loop = "while x != END { x = next x; y = x; y = x }"
        for many, expected in ((99, True), (100, False)):
            start = Store(row_of(many).names + (("y", 0),), row_of(many).cells)
            walk = Walk(start.names, start.cells, program_tree(loop), 10 ** 6)
            texts = []
            for cell in list(range(2, many + 1)) + [0]:
                texts += [Store((("x", cell), ("y", (cell - 1) % (many + 1))), start.cells).text if cell != 2 else
                          Store((("x", 2), ("y", 0)), start.cells).text] + [Store((("x", cell), ("y", cell)), start.cells).text] * 2
            texts[-3] = Store((("x", 0), ("y", many)), start.cells).text
            self.assertIs(accepts(("run", loop, start.text, Store(walk.names, walk.cells).text), tuple(texts)), expected)
            self.assertEqual(walk.steps, 4 * many + 1)
        # A run that fails, or never ends, is not done.
        self.refuses(("run", "x = END; drop x", "x=1 | 1>0", "x=0 | 1>0"), ("x=0 | 1>0",))
        self.refuses(("run", "while x = x { none }", T, T), ())
        self.refuses(("run", "while x = x { x = x }", T, T), (T,) * 200)
        self.refuses(("run", "x = y", T, T), ("x=2 y=2 | 1>2 2>0",))

    def test_stores_of_any_number_of_cells(self):
        big, program = row_of(500), "; ".join(["y = new; next y = x; x = y"] * 8)
        self.takes(("keeps", big.text, "chain x END 0+2"), ())
        self.takes(("fits", big.text, "chain x END 0+2"), ((), (500,)))
        self.takes(("broken", "x", "chain x END 0+2", "y = new; next y = x; x = y", "chain x END 0+2"), big.text)
        self.refuses(("broken", "x", "chain x END 0+2", program, "chain x END 0+2"), big.text)
        self.takes(("broken", "x", "chain x END 0+2", program, "chain x END 12"), big.text)
        self.takes(("leaks", "x", "rest", "x = END"), big.text)
        self.refuses(("leaks", "x", "rest", program), big.text)
        self.takes(("leaks", "x", "rest", program + "; x = next x"), big.text)
        self.takes(("differ", "x", program, "; ".join(["x = new"] * 8), "rest"), big.text)
        self.refuses(("differ", "x", program, "; ".join(["t = new; next t = x; x = t"] * 8), "rest"), big.text)
        self.takes(("no promise", "x", "rest", "x != END", "y = new; next y = x; x = y", "rest", "rest", (("x", 1),)), ("fall", big.text))
        self.takes(("no promise", "x", "rest", "x != END", program, "chain x END 0+5", "rest", None), ("turn", big.text))
        # All places from 1 to 999 are taken.
        full = Store((("x", 1),), tuple((cell, cell + 499) for cell in range(1, 501)))
        self.takes(("leaks", "x", "rest", "x = new; x = new"), full.text)
        self.takes(("broken", "x", "rest", "x = new; x = new", "lost 0 * rest"), full.text)

    def test_turns(self):
        for turn, expected in ((1, True), (10 ** 60, True), (0, False), (10 ** 60 + 1, False), (-1, False), (True, False), (None, False)):
            self.assertIs(accepts(("meet", 0, 1, 1, 1, 0, turn), 0), expected, turn)
            self.assertIs(accepts(("apart", 1, 1, 0, 1, 0, turn), ()), expected, turn)
        for claim in ((-1, 1, 1, 2, 0), (HUGE + 1, 1, 1, 2, 0), (0, 0, 1, 2, 0), (0, HUGE + 1, 1, 2, 0), (0, 1, -1, 2, 0), (0, 1, HUGE + 1, HUGE + 1, 0),
                      (0, 1, 2, 1, 0), (0, 1, 1, HUGE + 1, 0), (0, 1, 1, 2, -1), (0, 1, 1, 2, HUGE + 1), (False, 1, 1, 2, 0), (0, True, 1, 2, 0)):
            for paper in range(4):
                self.refuses(("meet",) + claim + (1,), paper)
            self.refuses(("apart",) + claim + (1,), ())
        for tail, ring, slow, fast, lead, turn in itertools.product((0, 1, 3), (1, 2, 3), (0, 1, 2), (1, 2, 4), (0, 1, 5), (1, 2, 3, 7)):
            if slow <= fast:
                ahead = lead + (fast - slow) * turn
                is_met = ahead == 0 or (slow * turn >= tail and ahead % ring == 0)
                claim = tail, ring, slow, fast, lead, turn
                self.assertIs(accepts(("apart",) + claim, ()), not is_met)
                for paper in range(0, 12):
                    self.assertIs(accepts(("meet",) + claim, paper), is_met and paper * ring == ahead, (claim, paper))


def is_same(value, other):
    return type(value) is type(other) and value == other


def naive_store(names, paper):
    """The store that a paper tells for some names, or None."""
    try:
        store = read_store(paper)
    except ValueError:
        return None
    return store if store.letters == names else None


def does_keep(store, saying):
    return naive_keeps(store.names, store.cells, saying_tree(saying))


def strays(store, program, saying):
    """Whether a program fails, or leads to a store that does not keep a saying."""
    walk = Walk(store.names, store.cells, program_tree(program), 400)
    return walk.word == "fault" or not naive_keeps(walk.names, walk.cells, saying_tree(saying))


def many_lost(names, cells):
    return len(cells) - len(reached(names, dict(cells)))


def naively_shown(claim, paper):
    """Whether a paper shows a claim, whose form is right and whose papers tell stores."""
    word, names, parts = claim[0], claim[1], claim[2:]
    if word == "no promise":
        return naively_broken(claim, paper)
    store = naive_store(names, paper)
    if store is None or not does_keep(store, parts[2] if word == "differ" else parts[0]):
        return False
    if word == "possible":
        return True
    if word == "outside":
        return not does_keep(store, parts[1])
    if word == "broken":
        return strays(store, parts[1], parts[2])
    if word == "differ":
        return not leave_same(*[Walk(store.names, store.cells, program_tree(text), 400) for text in parts[:2]])
    walk = Walk(store.names, store.cells, program_tree(parts[1]), 400)
    return walk.word == "done" and many_lost(walk.names, walk.cells) > many_lost(store.names, store.cells)


def naively_broken(claim, paper):
    """The same for the claim `no promise`."""
    _, names, before, test, body, promise, after, weights = claim
    if not isinstance(paper, tuple) or len(paper) != 2 or not isinstance(paper[0], str):
        return False
    store = naive_store(names, paper[1])
    if store is None:
        return False
    if paper[0] == "start":
        return does_keep(store, before) and not does_keep(store, promise)
    if not does_keep(store, promise):
        return False
    if paper[0] == "end":
        return not holds(test, store) and not does_keep(store, after)
    if paper[0] == "turn":
        return holds(test, store) and strays(store, body, promise)
    behind = run(body, store, 400)
    if paper[0] != "fall" or weights is None or not holds(test, store) or behind.word != "done":
        return False
    return weight_of(plan_of(behind.store), weights) >= weight_of(plan_of(store), weights)


class TruthTest(unittest.TestCase):
    def test_stores_at_random(self):
        random = Random(491)
        seen = {}
        for names in ("x", "xy", "abc"):
            sayings = list(some_sayings(random, names, 60, 2, 3))
            stores = list(some_stores(random, names, 25))
            for saying in sayings:
                for store in random.sample(stores, 3):
                    kept = does_keep(store, saying)
                    self.assertIs(accepts(("keeps", store.text, saying), ()), kept)
                    self.assertIs(accepts(("keeps not", store.text, saying), ()), not kept)
                    self.assertIs(accepts(("possible", names, saying), store.text), kept)
                    seen[kept] = seen.get(kept, 0) + 1
            for first, second in zip(stores, stores[1:]):
                alike = are_matched(first.names, first.cells, second.names, second.cells)
                self.assertIs(accepts(("unlike", first.text, second.text), ()), not alike)
        self.assertGreater(min(seen.values()), 60)

    def test_placings_at_random(self):
        random = Random(492)
        found = 0
        for _ in range(150):
            picture = some_picture(random, "xy", 2, 3)
            _, hidden, items = saying_tree(picture)
            many = len([item for item in items if item[0] == "chain"])
            for store in some_stores(random, "xy", 2):
                for _ in range(6):
                    paper = (tuple(random.randint(0, 9) for _ in hidden), tuple(random.randint(0, 3) for _ in range(many)))
                    self.assertIs(accepts(("fits", store.text, picture), paper), is_placing(store, picture, paper))
                    found += is_placing(store, picture, paper)
        self.assertGreater(found, 5)

    def test_matchings(self):
        # All matchings of two alike stores, of which just one is accepted.
        for first, second in (("x=1 y=4 | 1>2 2>3 3>9 4>2 6>0", "x=7 y=5 | 1>2 5>8 7>8 8>1 9>9"), ("x=3 | 1>1 2>3 3>2", "x=1 | 1>2 2>1 3>2")):
            one, two, accepted = read_store(first), read_store(second), 0
            cells = [sorted(reached(store.names, dict(store.cells))) for store in (one, two)]
            self.assertEqual(len(cells[0]), len(cells[1]))
            for order in itertools.permutations(cells[1]):
                accepted += accepts(("alike", one.text, two.text), tuple(zip(cells[0], order)))
            self.assertEqual(accepted, 1)

    def test_papers_with_stores_at_random(self):
        random = Random(493)
        seen = {}
        for _ in range(200):
            names = random.choice(["x", "xy", "xy", "abc"])
            sayings = [random.choice(["rest", "lost 0 * rest", f"{names[0]} != END * rest", *some_sayings(random, names, 2, 2, 3)]) for _ in range(3)]
            first, second = some_straight(random, names, 4), some_straight(random, names, 4)
            weights = random.choice([None, (), ((names[0], 1),), tuple((letter, random.randint(0, 9)) for letter in names)])
            claims = [("possible", names, sayings[0]), ("outside", names, sayings[0], sayings[1]), ("broken", names, sayings[0], first, sayings[1]),
                      ("differ", names, first, second, sayings[0]), ("leaks", names, sayings[0], first)]
            if len(names) < 3:
                claims.append(("no promise", names, sayings[0], some_test(random, list(names)), first, sayings[1], sayings[2], weights))
            for store in some_stores(random, names, 4):
                for claim in claims:
                    papers = [store.text] if claim[0] != "no promise" else [(word, store.text) for word in ("start", "turn", "end", "fall", "")]
                    for paper in papers:
                        expected = naively_shown(claim, paper)
                        self.assertIs(accepts(claim, paper), expected, (claim, paper))
                        key = claim[0], paper[0] if isinstance(paper, tuple) else "", expected
                        seen[key] = seen.get(key, 0) + 1
        for claim in ("possible", "outside", "broken", "differ", "leaks"):
            self.assertGreater(min(seen[claim, "", True], seen[claim, "", False]), 20, claim)
        for word in ("start", "turn", "end", "fall"):
            self.assertGreater(min(seen["no promise", word, True], seen["no promise", word, False]), 8, word)

    def test_runs_at_random(self):
        random = Random(494)
        done = 0
        for _ in range(300):
            program = some_program(random, list("xyt"), random.randint(1, 6), 2)
            for store in some_stores(random, "xy", 2) if is_program(program) else ():
                walk = Telling(store, program, 400)
                texts = walk.texts
                end = Store(walk.names, walk.cells).text
                claim = ("run", program, store.text, end)
                self.assertIs(accepts(claim, texts), walk.word == "done", (claim, texts))
                done += walk.word == "done" and len(texts) > 2
                self.assertFalse(accepts(claim, texts + (end,)))
                self.assertFalse(texts and accepts(claim, texts[:-1]))
                self.assertFalse(accepts(("run", program, store.text, "x=0 y=999 | none"), texts))
        self.assertGreater(done, 20)

    def test_never_both(self):
        # Of two claims in one row at most one is accepted, whatever the papers are.
        random = Random(495)
        papers = [(), 0, 1, 2, ((), ()), ((1, 1),), ((1, 1), (2, 2))]
        papers += [store.text for names in ("x", "xy") for store in some_stores(random, names, 30)]
        papers += [(word, text) for word in ("start", "turn", "end", "fall") for text in papers if isinstance(text, str)]
        found = {True: 0, False: 0}
        for _ in range(25):
            names = random.choice(["x", "x", "xy"])
            sayings = list(itertools.islice(some_sayings(random, names, 9, 2, 2), 3))
            first, second = some_straight(random, names, 3), some_straight(random, names, 3)
            stores = [store.text for store in some_stores(random, names, 2)]
            promise = names, sayings[0], some_test(random, list(names)), first, sayings[1], sayings[2], random.choice([None, ((names[0], 1),)])
            walk = tuple(random.choice([(0, 1), (0, 2), (1, 2), (2, 3)])) + (1, random.randint(1, 3), random.randint(0, 2), random.randint(1, 4))
            rows = [(("keeps", stores[0], sayings[0]), ("keeps not", stores[0], sayings[0])),
                    (("outside", names, *sayings[:2]), ("inside", names, *sayings[:2])), (("alike", *stores), ("unlike", *stores)),
                    (("broken", names, sayings[0], first, sayings[1]), ("kept", names, sayings[0], first, sayings[1])),
                    (("differ", names, first, second, sayings[0]), ("same", names, first, second, sayings[0])),
                    (("leaks", names, sayings[0], first), ("no leak", names, sayings[0], first)),
                    (("promise", *promise), ("no promise", *promise)), (("meet", *walk), ("apart", *walk))]
            for claim, opposite in rows:
                both = [any(accepts(one, paper) for paper in papers) for one in (claim, opposite)]
                self.assertNotEqual(both, [True, True], claim)
                found[any(both)] += 1
        self.assertGreater(found[True], 120)


class Telling(Walk):
    """A walk that tells the texts of the stores behind the deeds that are done, helpers left out."""

    def __init__(self, store, program, most):
        self.letters = store.letters
        self.texts = ()
        super().__init__(store.names, store.cells, program_tree(program), most)

    def step(self, deed, number):
        super().step(deed, number)
        names = tuple((letter, self.at[letter]) for letter in self.letters)
        self.texts += (Store(names, tuple(sorted(self.arrows.items()))).text,)


class SayingTest(unittest.TestCase):
    def test_the_checker_agrees_with_keeps(self):
        for store in some_stores(Random(496), "xy", 100):
            for saying in ("lost 0 * rest", "chain x END 0+ * rest", "some h : chain x h 0+ * chain y h 0+ * rest"):
                self.assertIs(accepts(("keeps", store.text, saying), ()), keeps(store, saying))


if __name__ == "__main__":
    unittest.main()
