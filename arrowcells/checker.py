"""The checker: whether a paper shows that a claim is true."""

from arrowcells.broken import least_broken, least_leaking
from arrowcells.claims import claim_in
from arrowcells.deeds import does_hold
from arrowcells.differ import least_differing, left_behind
from arrowcells.fits import cells_placed, keeps_tree
from arrowcells.inside import least_without
from arrowcells.kinds import is_number, is_tuple_of
from arrowcells.lots import lot_of_tree
from arrowcells.papers import matching_of, run_texts, store_behind_run
from arrowcells.plans import plan_of
from arrowcells.promises import first_broken
from arrowcells.runs import MOST_STEPS
from arrowcells.walkers import do_meet
from arrowcells.ways import lost
from arrowcells.weights import weight_in


def _is_nothing(paper):
    """Whether a paper is the empty tuple."""
    return is_tuple_of(paper, 0)


def _lots_of(claim):
    """The list of the lots of the sayings of a claim."""
    return [lot_of_tree(tree, claim.names) for tree in claim.sayings]


def _store_keeping(claim, paper):
    """The store that a paper tells, if it keeps the first saying of a claim; otherwise None."""
    store = claim.store_of(paper)
    return store if store is not None and keeps_tree(store, claim.sayings[0]) else None


def _leads_astray(tree, store, saying):
    """Whether a program fails on a store or leads it to one that does not keep a saying."""
    behind = store_behind_run(tree, store)
    return behind is None or not keeps_tree(behind, saying)


def _check_fits(claim, paper):
    """The paper is a placing with which the picture fits."""
    return cells_placed(claim.stores[0], claim.sayings[0], paper) is not None


def _check_keeps(claim, paper):
    """The store keeps the saying."""
    return _is_nothing(paper) and keeps_tree(claim.stores[0], claim.sayings[0])


def _check_keeps_not(claim, paper):
    """The store does not keep the saying."""
    return _is_nothing(paper) and not keeps_tree(claim.stores[0], claim.sayings[0])


def _check_possible(claim, paper):
    """The paper's store keeps the saying."""
    return _store_keeping(claim, paper) is not None


def _check_outside(claim, paper):
    """The paper's store keeps the first saying and not the other one."""
    store = _store_keeping(claim, paper)
    return store is not None and not keeps_tree(store, claim.sayings[1])


def _check_inside(claim, paper):
    """No store keeps the first saying and not the other one."""
    if not _is_nothing(paper):
        return False
    lot, other = _lots_of(claim)
    return least_without(lot, other) is None


def _check_run(claim, paper):
    """The run is done, and the paper tells the stores behind its deeds."""
    store, end = claim.stores
    texts = run_texts(claim.programs[0], store, MOST_STEPS)
    if texts is None or not isinstance(paper, tuple) or not all([isinstance(text, str) for text in paper]):
        return False
    last = texts[-1] if texts else store.text
    return paper == texts and last == end.text


def _check_alike(claim, paper):
    """Both stores have the same plan, and the paper matches their reached cells."""
    store, other = claim.stores
    if not isinstance(paper, tuple) or plan_of(store) != plan_of(other):
        return False
    for pair in paper:
        if not is_tuple_of(pair, 2) or not is_number(pair[0]) or not is_number(pair[1]):
            return False
    return paper == matching_of(store, other)


def _check_unlike(claim, paper):
    """Both stores have unlike plans."""
    return _is_nothing(paper) and plan_of(claim.stores[0]) != plan_of(claim.stores[1])


def _check_broken(claim, paper):
    """The paper's store keeps the first saying, and the program fails or does not lead it into the other one."""
    store = _store_keeping(claim, paper)
    return store is not None and _leads_astray(claim.programs[0], store, claim.sayings[1])


def _check_kept(claim, paper):
    """There is no store for which the claim `broken` is true."""
    if not _is_nothing(paper):
        return False
    before, after = _lots_of(claim)
    return least_broken(before, claim.programs[0], after) is None


def _check_differ(claim, paper):
    """Both programs do not leave the same behind the paper's store, which keeps the saying."""
    store = _store_keeping(claim, paper)
    if store is None:
        return False
    return left_behind(claim.programs[0], store) != left_behind(claim.programs[1], store)


def _check_same(claim, paper):
    """There is no store for which the claim `differ` is true."""
    return _is_nothing(paper) and least_differing(claim.programs, _lots_of(claim)[0]) is None


def _check_leaks(claim, paper):
    """The program does not fail on the paper's store, which keeps the saying, and loses cells."""
    store = _store_keeping(claim, paper)
    if store is None:
        return False
    behind = store_behind_run(claim.programs[0], store)
    return behind is not None and len(lost(behind)) > len(lost(store))


def _check_no_leak(claim, paper):
    """There is no store for which the claim `leaks` is true."""
    return _is_nothing(paper) and least_leaking(_lots_of(claim)[0], claim.programs[0]) is None


def _check_promise(claim, paper):
    """No part of the promise is broken."""
    if not _is_nothing(paper):
        return False
    before, promise, after = _lots_of(claim)
    return first_broken(before, claim.tested, claim.programs[0], promise, after, claim.weights) is None


def _check_no_promise(claim, paper):
    """The paper tells a part of the promise, and a store that breaks it."""
    if not is_tuple_of(paper, 2) or not isinstance(paper[0], str):
        return False
    store = claim.store_of(paper[1])
    return store is not None and _breaks_promise(claim, paper[0], store)


def _breaks_promise(claim, word, store):
    """Whether a store shows that the part of a promise with a word does not hold."""
    before, promise, after = claim.sayings
    if word == "start":
        return keeps_tree(store, before) and not keeps_tree(store, promise)
    if not keeps_tree(store, promise):
        return False
    does_go_on = does_hold(claim.tested, store.places)
    if word == "end":
        return not does_go_on and not keeps_tree(store, after)
    if word == "turn":
        return does_go_on and _leads_astray(claim.programs[0], store, promise)
    if word != "fall" or claim.weights is None or not does_go_on:
        return False
    behind = store_behind_run(claim.programs[0], store)
    return behind is not None and weight_in(plan_of(behind), claim.weights) >= weight_in(plan_of(store), claim.weights)


def _check_meet(claim, paper):
    """The walkers meet in the turn, and the paper tells how many rings lie between them."""
    _, ring, slow, fast, lead, turn = claim.numbers
    if not is_number(paper) or lead + (fast - slow) * turn != paper * ring:
        return False
    return do_meet(*claim.numbers)


def _check_apart(claim, paper):
    """The walkers do not meet in the turn."""
    return _is_nothing(paper) and not do_meet(*claim.numbers)


CHECKS = {
    "fits": _check_fits,
    "keeps": _check_keeps,
    "keeps not": _check_keeps_not,
    "possible": _check_possible,
    "outside": _check_outside,
    "inside": _check_inside,
    "run": _check_run,
    "alike": _check_alike,
    "unlike": _check_unlike,
    "broken": _check_broken,
    "kept": _check_kept,
    "differ": _check_differ,
    "same": _check_same,
    "leaks": _check_leaks,
    "no leak": _check_no_leak,
    "promise": _check_promise,
    "no promise": _check_no_promise,
    "meet": _check_meet,
    "apart": _check_apart,
}


def accepts(claim, paper):
    """Whether a claim and a paper, whatever both are, are a claim for the checker and a paper that shows it."""
    told = claim_in(claim)
    if told is None:
        return False
    check = CHECKS[told.word]
    return check(told, paper)
