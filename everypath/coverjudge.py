"""The judge of covers: whether each path has inputs, and each other side a refutation."""

from everypath.deciding import refutes
from everypath.kinds import are_integers, is_list_of


def cover_fault(branch, thing):
    """The first list of sides at which it is no cover of all that goes on from a branch; None if it is one."""
    return judged_branches(branch, thing)[0]


def judged_branches(branch, thing):
    """The fault of a cover, and the branches that go no further, as far as they were gone through."""
    if not is_node_there(branch, thing):
        return list(branch.trail.sides), []
    found = [] if branch.trail.wants_side() else [branch]
    waiting = parts_to_judge(branch, thing)
    while waiting:
        fork, part = waiting.pop()
        if is_list_of(part, 2) and part[0] == "never":
            if not refutes(fork.grounds.table, fork.grounds.trees, {}, part[1]):
                return list(fork.trail.sides), found
        else:
            behind = fork.gone_on()
            if not is_node_there(behind, part):
                return list(fork.trail.sides), found
            found.extend([] if behind.trail.wants_side() else [behind])
            waiting.extend(parts_to_judge(behind, part))
    return None, found


def parts_to_judge(branch, node):
    """(fork, what a right node has for it) for the sides that are let, the last one first."""
    return list(zip(branch.forks(), node[1:]))[::-1]


def is_node_there(branch, thing):
    """Whether it is "sides" where a side is wanted, else a path with as many unknowns as are met, taking its sides."""
    if branch.trail.wants_side():
        return is_list_of(thing, 3) and thing[0] == "sides"
    if not is_list_of(thing, 2) or thing[0] != "path" or not are_integers(thing[1]):
        return False
    return len(thing[1]) == len(branch.trail.ranges) and branch.grounds.are_met_by(thing[1])
