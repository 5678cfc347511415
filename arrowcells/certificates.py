"""Certificates: claims that are so, with papers that the checker accepts."""

from arrowcells.broken import least_broken, least_leaking
from arrowcells.differ import least_differing
from arrowcells.errors import OtherNames
from arrowcells.fits import found_placing, keeps_tree
from arrowcells.inside import least_plan, least_without
from arrowcells.lots import lot_of_tree, need_told
from arrowcells.names import need_names
from arrowcells.papers import matching_of, run_texts
from arrowcells.plans import plan_of, store_of
from arrowcells.programs import need_few_letters, need_test, straight_tree
from arrowcells.promises import first_broken
from arrowcells.runs import need_run
from arrowcells.sayings import need_shown, saying_tree
from arrowcells.stores import need_store
from arrowcells.walkers import meet
from arrowcells.weights import need_weights


def _lots_of(trees, names):
    """The lots of the sayings with these trees."""
    return [lot_of_tree(tree, names) for tree in trees]


def _text_of(plan):
    """The text of the canonical store of a plan."""
    return store_of(plan).text


def _either(plan, word, opposite, parts):
    """The claim with a word and parts if there is no plan, otherwise the opposite one with the store of the plan."""
    if plan is None:
        return (word,) + parts, ()
    return (opposite,) + parts, _text_of(plan)


def certify_keeps(store, saying):
    """That a picture fits a store, or that a store keeps a saying or does not."""
    need_store(store)
    tree = saying_tree(saying)
    need_shown(tree, store.letters)
    if tree[0] == "picture":
        placed = found_placing(store, tree)
        if placed is not None:
            return ("fits", store.text, saying), placed
    word = "keeps" if keeps_tree(store, tree) else "keeps not"
    return (word, store.text, saying), ()


def certify_possible(names, saying):
    """That some store keeps a saying; None if no store does."""
    need_names(names)
    tree = saying_tree(saying)
    need_told([tree], names)
    plan = least_plan(lot_of_tree(tree, names))
    return None if plan is None else (("possible", names, saying), _text_of(plan))


def certify_inside(names, saying, other):
    """That each store that keeps a saying keeps another one, or that some store does not."""
    need_names(names)
    trees = [saying_tree(saying), saying_tree(other)]
    need_told(trees, names)
    lot, other_lot = _lots_of(trees, names)
    return _either(least_without(lot, other_lot), "inside", "outside", (names, saying, other))


def certify_run(program, store, most):
    """That a run is done and leads to a store; None if it is not done."""
    tree = need_run(program, store, most)
    texts = run_texts(tree, store, most)
    if texts is None:
        return None
    last = texts[-1] if texts else store.text
    return ("run", program, store.text, last), texts


def certify_alike(store, other):
    """That two stores have the same plan, or that they do not."""
    need_store(store)
    need_store(other)
    if store.letters != other.letters:
        raise OtherNames(store.letters, other.letters)
    if plan_of(store) == plan_of(other):
        return ("alike", store.text, other.text), matching_of(store, other)
    return ("unlike", store.text, other.text), ()


def certify_kept(names, saying, program, other):
    """That a program leads stores that keep a saying, without failing, to ones that keep another one, or does not."""
    need_names(names)
    before = saying_tree(saying)
    tree = straight_tree(program)
    trees = [before, saying_tree(other)]
    need_told(trees, names)
    need_few_letters(names, tree)
    lot, goal = _lots_of(trees, names)
    return _either(least_broken(lot, tree, goal), "kept", "broken", (names, saying, program, other))


def certify_same(names, program, other, saying):
    """That two programs leave the same behind each store that keeps a saying, or that they do not."""
    need_names(names)
    programs = [straight_tree(program), straight_tree(other)]
    tree = saying_tree(saying)
    need_told([tree], names)
    for told in programs:
        need_few_letters(names, told)
    plan = least_differing(programs, lot_of_tree(tree, names))
    return _either(plan, "same", "differ", (names, program, other, saying))


def certify_no_leak(names, saying, program):
    """That a program loses no cells of the stores that keep a saying, or that it does."""
    need_names(names)
    before = saying_tree(saying)
    tree = straight_tree(program)
    need_told([before], names)
    need_few_letters(names, tree)
    return _either(least_leaking(lot_of_tree(before, names), tree), "no leak", "leaks", (names, saying, program))


def certify_promise(names, before, test, body, promise, after, weights):
    """That no part of the promise of a loop is broken, or that one is."""
    need_names(names)
    first = saying_tree(before)
    tested = need_test(test, names)
    tree = straight_tree(body)
    trees = [first, saying_tree(promise), saying_tree(after)]
    if weights is not None:
        need_weights(weights, names)
    need_told(trees, names)
    need_few_letters(names, tree)
    lot, held, goal = _lots_of(trees, names)
    parts = (names, before, test, body, promise, after, weights)
    wrong = first_broken(lot, tested, tree, held, goal, weights)
    if wrong is None:
        return ("promise",) + parts, ()
    word, plan = wrong
    return ("no promise",) + parts, (word, _text_of(plan))


def certify_meet(tail, ring, slow, fast, lead):
    """That two walkers meet in some turn, the least one; None if they never meet."""
    turn = meet(tail, ring, slow, fast, lead)
    if turn is None:
        return None
    return ("meet", tail, ring, slow, fast, lead, turn), (lead + (fast - slow) * turn) // ring
