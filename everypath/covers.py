"""Covers: all paths within a bound of steps, with inputs that take them and refutations of all other sides."""

from everypath.branches import branch_at_first
from everypath.coverjudge import cover_fault
from everypath.gathering import gathered
from everypath.graphs import assertions
from everypath.programs import check_program
from everypath.runs import check_many, check_steps


def cover(program, steps, many):
    gathering = checked_gathering(program, steps, many)
    return None if gathering is None else gathering.told_cover()


def paths(program, steps, many):
    gathering = checked_gathering(program, steps, many)
    return None if gathering is None else gathering.told_paths()


def judged_cover(program, steps, thing):
    check_program(program)
    check_steps(steps)
    return cover_fault(branch_at_first(program, steps), thing)


def closed_by(program, steps, many):
    gathering = checked_gathering(program, steps, many)
    if gathering is None:
        return None
    return all([branch.trail.why != ("going",) for branch in gathering.found])


def broken(program, steps, many):
    gathering = checked_gathering(program, steps, many)
    if gathering is None:
        return None
    found = {}
    for branch in gathering.found:
        if branch.trail.why[0] == "breaks" and branch.trail.why not in found:
            found[branch.trail.why] = branch.grounds.inputs
    places = [("breaks", f, number) for f, number in assertions(program)]
    return [(why[1:], list(found[why])) for why in places if why in found]


def checked_gathering(program, steps, many):
    """The gathering of all paths, None for too many, behind the refusals."""
    check_paths(program, steps, many)
    return all_paths(program, steps, many)


def check_paths(program, steps, many):
    """The refusals of a program, a number of steps and one of paths."""
    check_program(program)
    check_steps(steps)
    check_many(many)


def all_paths(program, steps, many):
    """The gathering of all paths, None for too many."""
    return gathered(branch_at_first(program, steps), many)
