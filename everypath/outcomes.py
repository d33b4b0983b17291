"""Outcomes and chances: how runs stop, with which chance, and the least and the greatest value with which they end."""

from everypath.counting import added_chances, chance_by
from everypath.covers import all_paths, check_paths, checked_gathering
from everypath.deciding import grounds_of, refutes
from everypath.errors import BadCondition
from everypath.forms import strip_over
from everypath.graphs import is_edge
from everypath.grounds import refutation_by
from everypath.kinds import are_sides, is_list, is_list_of, tupled
from everypath.programs import check_program
from everypath.refusals import BadSome, BadWhy
from everypath.rewriting import put_in
from everypath.runs import check_steps
from everypath.stripmath import multiple, reduce_strip
from everypath.trails import gone_along, trail_at_first, unknown
from everypath.trees import is_condition_over

LEAST = 1
GREATEST = -1


def chances(program, steps, many):
    gathering = checked_gathering(program, steps, many)
    return None if gathering is None else [chance_by(branch.grounds) for branch in gathering.found]


def chance_of_all(program, steps, some):
    check_program(program)
    check_steps(steps)
    trails = trails_along(program, steps, some)
    if trails is None:
        raise BadSome(some)
    return added_chances([chance_by(grounds_of(trail.ranges, trail.conditions)) for trail in trails])


def chance_of(program, steps, many, why):
    check_paths(program, steps, many)
    if not is_why(program, why):
        raise BadWhy(why)
    gathering = all_paths(program, steps, many)
    if gathering is None:
        return None
    return added_chances([chance_by(branch.grounds) for branch in gathering.found if branch.trail.why == tuple(why)])


def chance_ending(program, steps, many, condition):
    check_ending(program, steps, many, condition)
    gathering = all_paths(program, steps, many)
    if gathering is None:
        return None
    return added_chances([chance_by(grounds_where(branch, condition)) for branch in branches_that_end(gathering)])


def ending(program, steps, many, condition):
    check_ending(program, steps, many, condition)
    gathering = all_paths(program, steps, many)
    if gathering is None:
        return None
    refutations = []
    for branch in branches_that_end(gathering):
        grounds = grounds_where(branch, condition)
        last = len(grounds.trees) - 1
        pursuit = grounds.meet_condition(last, last + 1)
        if pursuit is None:
            return "met", list(branch.trail.sides), grounds.inputs
        refutations.append(refutation_by(pursuit))
    return "never", refutations


def is_never(program, steps, many, condition, thing):
    check_ending(program, steps, many, condition)
    gathering = all_paths(program, steps, many)
    if gathering is None:
        return False
    found = [grounds_where(branch, condition) for branch in branches_that_end(gathering)]
    if not is_list_of(thing, len(found)):
        return False
    return all([refutes(grounds.table, grounds.trees, {}, part) for grounds, part in zip(found, thing)])


def least_outcome(program, steps, many):
    return outcome_toward(checked_gathering(program, steps, many), LEAST)


def greatest_outcome(program, steps, many):
    return outcome_toward(checked_gathering(program, steps, many), GREATEST)


def check_ending(program, steps, many, condition):
    """The refusals of a program, numbers of steps and paths, and a condition on outcomes."""
    check_paths(program, steps, many)
    if not is_condition_over(condition, ["out"]):
        raise BadCondition(condition)


def is_why(program, thing):
    """Whether a path may stop so otherwise than by ending."""
    if is_list_of(thing, 3) and thing[0] in ("breaks", "barred"):
        return is_edge(program, thing[1:])
    return is_list_of(thing, 1) and thing[0] == "going"


def trails_along(program, steps, thing):
    """The trails along unlike lists of sides, by each of which a stop or the last step is come to; None for others."""
    if not is_list(thing) or not all([are_sides(sides) for sides in thing]):
        return None
    if len(set(tupled(thing))) < len(thing):
        return None
    trails = [trail_at_first(program, steps) for _ in thing]
    for trail, sides in zip(trails, thing):
        if not gone_along(trail, sides, steps) or trail.wants_side():
            return None
    return trails


def branches_that_end(gathering):
    return [branch for branch in gathering.found if branch.trail.why[0] == "ends"]


def grounds_where(branch, condition):
    """The grounds of a branch that ends, with a condition on its outcome behind its own ones."""
    grounds = branch.grounds.copied()
    grounds.add_condition(put_in(tupled(condition), "c", {"out": branch.trail.why[1]}))
    return grounds


def outcome_toward(gathering, way):
    """(value, sides, inputs) of the outcome that is least, or greatest; () if there is none, None for no gathering."""
    if gathering is None:
        return None
    branches = branches_that_end(gathering)
    best = None
    # those that may be best by their ranges alone come first, since then most others need not be looked at
    for (low, high), index in sorted([(worths_of(branch, way), index) for index, branch in enumerate(branches)]):
        if best is not None:
            high = min(high, best[0] if index < best[1] else best[0] - 1)
        found = None if low > high else least_worth(branches[index], low, high, way)
        if found is not None:
            best = found[0], index, found[1]
    if best is None:
        return ()
    return way * best[0], list(branches[best[1]].trail.sides), best[2]


def worths_of(branch, way):
    """Between what integers way times the value of a branch lies by the ranges alone."""
    ranges = branch.trail.ranges
    strips = {unknown(at): reduce_strip(low, high, 1, 0) for at, (low, high) in enumerate(ranges)}
    return multiple(way, strip_over(branch.trail.why[1], strips))[:2]


def least_worth(branch, low, high, way):
    """(worth, inputs) of the least from low to high that way times the value of a branch comes to; None if none is.

    The worth is one unknown more, behind the inputs.
    """
    grounds = branch.grounds.copied()
    number = len(grounds.table.ranges)
    grounds.add_unknown(low, high)
    last = grounds.add_condition(("eq", ("times", way, branch.trail.why[1]), ("name", unknown(number))))
    if grounds.meet_toward(last, last + 1, {number: 1}) is not None:
        return None
    return grounds.inputs[number], grounds.inputs[:number]
