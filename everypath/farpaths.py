"""Far paths: all runs by leaps, however long, with covers of them, loops without end, and the longest run."""

from everypath.branches import Branch
from everypath.coverjudge import cover_fault
from everypath.farwalks import far_trail_at_first
from everypath.gathering import gathered
from everypath.grounds import Grounds
from everypath.leaps import check_leaps
from everypath.programs import check_program
from everypath.pursuits import Pursuit
from everypath.runs import check_many


def far_paths(program, leaps, many):
    gathering = checked_far(program, leaps, many)
    return None if gathering is None else gathering.told_paths()


def all_told(program, leaps, many):
    return are_all_told(checked_far(program, leaps, many))


def endless(program, leaps, many):
    gathering = checked_far(program, leaps, many)
    if gathering is None:
        return None
    found = {}
    for branch in gathering.found:
        why = branch.trail.why
        if why[0] == "endless" and why[1:] not in found:
            found[why[1:]] = inputs_among(branch, branch.grounds.inputs)
    return [(f, place, found[(f, place)]) for f, place in sorted(found)]


def far_longest(program, leaps, many):
    gathering = checked_far(program, leaps, many)
    if not are_all_told(gathering):
        return None
    best = None
    for branch in gathering.found:
        if branch.trail.why[0] != "endless":
            steps, inputs = longest_along(branch)
            if best is None or steps > best[0]:
                best = steps, inputs
    return best


def far_cover(program, leaps, many):
    gathering = checked_far(program, leaps, many)
    return None if gathering is None else gathering.told_cover()


def judged_far(program, leaps, thing):
    check_program(program)
    check_leaps(leaps)
    return cover_fault(far_branch_at_first(program, leaps), thing)


def checked_far(program, leaps, many):
    """The gathering of all far paths, None for too many, behind the refusals."""
    check_program(program)
    check_leaps(leaps)
    check_many(many)
    return gathered(far_branch_at_first(program, leaps), many)


def far_branch_at_first(program, leaps):
    """The branch from the first place on, ahead of all far sides."""
    return Branch(far_trail_at_first(program, leaps), Grounds([]), leaps)


def are_all_told(gathering):
    """Whether there are not too many paths, and none goes on."""
    return gathering is not None and all([branch.trail.why[0] != "going" for branch in gathering.found])


def inputs_among(branch, unknowns):
    """The unknowns that are inputs."""
    rounds = {number: True for number, _ in branch.trail.rounds}
    return [n for number, n in enumerate(unknowns) if number not in rounds]


def longest_along(branch):
    """(steps, inputs) of the greatest number of steps of the runs along a branch, of the least inputs that take it."""
    rounds = branch.trail.rounds
    unknowns = branch.grounds.inputs
    if rounds:
        grounds = branch.grounds
        toward = {number: -steps for number, steps in rounds}
        unknowns = Pursuit(grounds.table, grounds.trees, list(range(len(grounds.trees))), toward).least()
    steps = branch.trail.taken + sum([unknowns[number] * steps for number, steps in rounds])
    return steps, inputs_among(branch, unknowns)
