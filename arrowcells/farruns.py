"""Far runs: runs of plain programs on plans, however many steps they have."""

from arrowcells.errors import HasInnerLoop
from arrowcells.farwalks import FarWalk
from arrowcells.planruns import plan_in, sketch_of
from arrowcells.plans import made_plan, need_plan
from arrowcells.programs import is_plain_tree, letters_of_tree, need_few_letters, program_tree


class FarRun:
    """What a far run has come to."""

    def __init__(self, walk, letters):
        self.word = walk.word
        self.deed = walk.deed
        self.plan, self.steps = None, None
        if walk.word != "endless":
            told = made_plan(walk.shape, walk.row[:-1], walk.row[-1])
            self.plan = plan_in(sketch_of(told, ""), letters, told.lost)
            self.steps = walk.steps


def _walked(program, plan):
    """The walk of a program on a plan, behind all errors."""
    tree = program_tree(program)
    if not is_plain_tree(tree):
        raise HasInnerLoop()
    need_plan(plan)
    need_few_letters(plan.letters, tree)
    letters = letters_of_tree(tree)
    # The helpers belong to the shapes of a course, so they are names as long as the run goes on.
    names = "".join(sorted({letter: True for letter in plan.letters + letters}))
    told = plan_in(sketch_of(plan, letters), names, plan.lost)
    return FarWalk(tree, told.shape, told.lengths + (told.lost,))


def far_run(program, plan):
    """The far run of a plain program on a plan."""
    walk = _walked(program, plan)
    return FarRun(walk, plan.letters)


def turns(program, plan):
    """The tuple of the numbers of turns of the loops of a program in a far run, None if it is endless."""
    walk = _walked(program, plan)
    return None if walk.word == "endless" else tuple(walk.turns)
