"""The judge of trees of two programs."""

from everypath.deciding import refutes
from everypath.kinds import is_list, is_list_of
from everypath.pairs import pair_at_first
from everypath.programs import check_program
from everypath.runs import check_steps
from everypath.traces import check_other

# how many parts stand in what has this word, with the word
LENGTHS = {"cut": 1, "end": 1, "one": 3, "other": 3, "equal": 4}


def judged_tree(program, other, steps, thing):
    check_program(program)
    check_other(other)
    check_steps(steps)
    waiting = [(thing, pair_at_first(program, other, steps), None)]
    while waiting:
        part, pair, side = waiting.pop()
        if side is not None:
            grounds, _ = pair.grounds_by(side)
            if is_list_of(part, 2) and part[0] == "never":
                if not refutes(grounds.table, grounds.trees, {}, part[1]):
                    return pair.sides_by(side)
                continue
            pair = pair.gone_by(side, grounds)
        if not is_node_there(pair, part):
            return pair.told_sides()
        if pair.word == "equal":
            waiting.append((part[3], pair.gone_on(), None))
        elif pair.word in ("one", "other"):
            waiting.extend([(part[2], pair, 1), (part[1], pair, 0)])
    return None


def is_node_there(pair, thing):
    """Whether it is, but for what comes behind, what a tree has here."""
    if not is_list(thing) or len(thing) != LENGTHS.get(pair.word) or thing[0] != pair.word:
        return False
    if pair.word != "equal":
        return True
    for at in (0, 1):
        grounds, _ = pair.grounds_less(at)
        if not refutes(grounds.table, grounds.trees, {}, thing[1 + at]):
            return False
    return True
