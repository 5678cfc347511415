"""Runs of programs on plans, whatever lengths these have."""

from arrowcells.codes import Code, walked
from arrowcells.deeds import does_hold
from arrowcells.errors import Failed
from arrowcells.names import need_known
from arrowcells.plans import made_plan, need_plan
from arrowcells.programs import letters_of_tree, letters_tested, need_deed, need_few_letters, program_tree, test_tree
from arrowcells.runs import need_steps
from arrowcells.shapes import knot_words, places_in
from arrowcells.sketches import sketched


class PlanRun:
    """What a run on a plan has come to."""

    def __init__(self, plan, tree, most):
        sketch = sketch_of(plan, letters_of_tree(tree))
        self.word, self.steps, self.deed = walked(Code(tree), sketch, most)
        self.plan = plan_in(sketch, plan.letters, plan.lost)


def sketch_of(plan, letters):
    """The sketch of a plan, where more letters lead to END."""
    return sketched(knot_words(plan.shape), [(length, None) for length in plan.lengths], letters, [])


def plan_in(sketch, letters, lost):
    """The plan of a sketch for the names with these letters, where so many cells more are lost."""
    shape, sums = sketch.told(letters)
    numbers = [number for number, _ in sums]
    return made_plan(shape, tuple(numbers[:-1]), lost + numbers[-1])


def plan_run(program, plan, most):
    """The run of a program on a plan with at most so many steps."""
    tree = program_tree(program)
    need_plan(plan)
    need_steps(most)
    need_few_letters(plan.letters, tree)
    return PlanRun(plan, tree, most)


def plan_done(plan, deed):
    """The plan behind a single deed, a run by itself."""
    need_plan(plan)
    need_deed(deed)
    need_known(letters_of_tree((deed,)), plan.letters)
    told = PlanRun(plan, (deed,), 1)
    if told.word == "fault":
        raise Failed(deed)
    return told.plan


def plan_holds(test, plan):
    """Whether a test holds in the stores of a plan."""
    tree = test_tree(test)
    need_plan(plan)
    need_known(letters_tested(tree), plan.letters)
    return does_hold(tree, places_in(knot_words(plan.shape)))
