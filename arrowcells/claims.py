"""Claims for the checker: whether their form is right, and what their parts tell."""

from arrowcells.kinds import are_names, is_whole
from arrowcells.programs import MOST_LETTERS, letters_of_tree, letters_tested, loops_in, program_or_none, test_or_none
from arrowcells.runs import MOST_RUN_CELLS
from arrowcells.sayings import saying_or_none, shown_in
from arrowcells.stores import store_in
from arrowcells.walkers import are_numbers
from arrowcells.weights import wrong_weight

MOST_SMALL = 2
MOST_TURN = 10 ** 60

# The kinds of the parts of each claim, behind its first word.
FORMS = {
    "fits": "store picture",
    "keeps": "store saying",
    "keeps not": "store saying",
    "possible": "names saying",
    "outside": "names saying saying",
    "inside": "small saying saying",
    "run": "program store store",
    "alike": "store store",
    "unlike": "store store",
    "broken": "names saying straight saying",
    "kept": "small saying straight saying",
    "differ": "names straight straight saying",
    "same": "small straight straight saying",
    "leaks": "names saying straight",
    "no leak": "small saying straight",
    "promise": "small saying test straight saying saying weights",
    "no promise": "small saying test straight saying saying weights",
    "meet": "number number number number number turn",
    "apart": "number number number number number turn",
}


class Claim:
    """What the parts of a claim tell: stores, and trees of sayings, programs and tests."""

    def __init__(self, word, names):
        self.word = word
        self.names = names
        self.stores = []
        self.sayings = []
        self.programs = []
        self.tested = None
        self.weights = None
        self.numbers = []

    def takes(self, kind, value):
        """Takes a part, and tells whether it is one of its kind."""
        if kind in ("names", "small"):
            return kind == "names" or len(self.names) <= MOST_SMALL
        if kind == "store":
            return self.takes_store(value)
        if kind in ("saying", "picture"):
            return self.takes_saying(value, kind == "picture")
        if kind in ("program", "straight"):
            return self.takes_program(value, kind == "straight")
        if kind == "test":
            return self.takes_test(value)
        if kind == "weights":
            self.weights = value
            return value is None or (isinstance(value, tuple) and wrong_weight(value, self.names) is None)
        if kind == "turn":
            return self.takes_turn(value)
        self.numbers.append(value)
        return True

    def takes_turn(self, value):
        """Takes a turn of walkers, and tells whether the numbers before it are those of a track and of walkers."""
        numbers = list(self.numbers)
        self.numbers.append(value)
        return are_numbers(*numbers) and is_whole(value, 1, MOST_TURN)

    def takes_store(self, value):
        """Takes the text of a store with the names of the claim."""
        store = self.store_of(value)
        self.stores.append(store)
        return store is not None

    def store_of(self, value):
        """The store with the names of the claim that a value tells, None if it tells none."""
        store = store_in(value)
        return None if store is None or store.letters != self.names else store

    def takes_saying(self, value, is_picture):
        """Takes a saying, or a picture, all of whose shown letters are names of the claim."""
        tree = saying_or_none(value)
        self.sayings.append(tree)
        if tree is None or (is_picture and tree[0] != "picture"):
            return False
        return all([letter in self.names for letter in shown_in(tree)])

    def takes_program(self, value, is_straight):
        """Takes a program, or one without loops, that has few enough letters together with the names of the claim."""
        tree = program_or_none(value)
        self.programs.append(tree)
        if tree is None or (is_straight and loops_in(tree)):
            return False
        return len(set(self.names + letters_of_tree(tree))) <= MOST_LETTERS

    def takes_test(self, value):
        """Takes a test all of whose letters are names of the claim."""
        self.tested = test_or_none(value)
        return self.tested is not None and all([letter in self.names for letter in letters_tested(self.tested)])


def claim_in(value):
    """The Claim that a value tells, None if it is no claim."""
    if not isinstance(value, tuple) or value == () or not isinstance(value[0], str):
        return None
    kinds = FORMS.get(value[0], "").split(" ")
    parts = value[1:]
    if value[0] not in FORMS or len(parts) != len(kinds):
        return None
    names = _names_in(kinds, parts)
    if names is None:
        return None
    claim = Claim(value[0], names)
    for kind, part in zip(kinds, parts):
        if not claim.takes(kind, part):
            return None
    if claim.word == "run" and len(claim.stores[0].cells) > MOST_RUN_CELLS:
        return None
    return claim


def _names_in(kinds, parts):
    """The names of a claim, those of its first store if it tells none itself; None if they are wrong."""
    if kinds[0] in ("names", "small"):
        return parts[0] if are_names(parts[0]) else None
    if "store" not in kinds:
        return ""
    store = store_in(parts[kinds.index("store")])
    return None if store is None else store.letters
