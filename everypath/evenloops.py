"""Even loops: whiles each round of which changes every name by the same integer."""

from everypath.plainsums import plain_sum
from everypath.trees import parts_of


class EvenLoop:
    """The head and condition of an even while, the place behind it, and how many steps a round is.

    gains: what a round adds to each name; facts: (e, f, change) for each fact "e at most f" of the condition, change
    being what a round adds to e less f.
    """

    def __init__(self, loop, gains):
        self.head = loop.head
        self.condition = loop.condition
        self.behind = loop.behind
        self.round_steps = len(loop.statements) + 2
        self.gains = gains
        self.facts = [(e, f, change_by(e, f, gains)) for e, f in facts_of_all(loop.condition)]

    def is_flat(self):
        return all([change <= 0 for _, _, change in self.facts])


def even_loops(program):
    """All even loops by (f, head)."""
    found = {}
    for f in program.loops:
        for head in program.loops[f]:
            loop = program.loops[f][head]
            gains = gains_of(loop, program.names[f])
            if gains is not None:
                found[(f, head)] = EvenLoop(loop, gains)
    return found


def gains_of(loop, names):
    """What a round adds to each name, names ascending; None if the loop is not even."""
    if not is_bounded(loop.condition) or has_quotient(loop.condition, "c"):
        return None
    sums = {name: (0, [(("name", name), 1)]) for name in sorted(names)}
    for statement in loop.statements:
        if statement[0] != "set" or has_quotient(statement[2], "e"):
            return None
        sums[statement[1]] = plain_sum(statement[2], sums)
    if not all([sums[name][1] == [(("name", name), 1)] for name in sums]):
        return None
    return {name: sums[name][0] for name in sums}


def is_bounded(condition):
    """Whether it is a le, a lt, or an and of such ones."""
    waiting = [condition]
    while waiting:
        part = waiting.pop()
        if part[0] == "and":
            waiting.extend([part[1], part[2]])
        elif part[0] not in ("le", "lt"):
            return False
    return True


def has_quotient(tree, kind):
    """Whether a div or mod stands in it."""
    waiting = [(tree, kind)]
    while waiting:
        part, sort = waiting.pop()
        if sort in "ec":
            if part[0] in ("div", "mod"):
                return True
            waiting.extend(parts_of(part, sort))
    return False


def facts_of_all(condition):
    """The facts (e, f), e at most f, that hold all together where a condition of an even loop does."""
    if condition[0] == "and":
        return [*facts_of_all(condition[1]), *facts_of_all(condition[2])]
    one = condition[1] if condition[0] == "le" else ("add", condition[1], ("number", 1))
    return [(one, condition[2])]


def change_by(e, f, gains):
    """What gains add to e less f."""
    _, terms = plain_sum(("sub", e, f), {})
    return sum([factor * gains[piece[1]] for piece, factor in terms])
