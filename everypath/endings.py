"""Endings: depths of functions that call themselves or each other, and how many steps no run passes."""

from everypath.closing import close
from everypath.folds import with_names
from everypath.graphs import functions_reached
from everypath.kinds import is_integer, is_text, tupled
from everypath.mosts import View
from everypath.papers import is_by_function, start_thing
from everypath.rankings import check_taken, is_ranking_of
from everypath.rankjudge import is_at_most, most_rounds, ranking_fault
from everypath.refusals import BadDepths, BadRankings, NotDeep
from everypath.trees import is_expression_over

DEEPEST = 60


class Costs:
    """The costs of functions, None where one is not told.

    rounds: how often the loop of (f, head) goes round at most; bounds: for those that turn how deep they are called
    from elsewhere; either may be None for what is not told.
    """

    def __init__(self, program, rounds, bounds):
        self.program = program
        self.rounds = rounds
        self.bounds = bounds
        self.reached = functions_reached(program)
        self.worked_out = {}

    def turns(self, f, g):
        """Whether each of the two functions calls the other one, at once or through others."""
        return g in self.reached[f] and f in self.reached[g]

    def cost_from_elsewhere(self, f):
        """The cost of a function where it is called by one with which it does not turn, or by nobody."""
        if not self.turns(f, f):
            if (f, None) not in self.worked_out:
                self.worked_out[(f, None)] = self.cost_within(f, None)
            return self.worked_out[(f, None)]
        bound = self.bounds[f]
        if bound is None or bound > DEEPEST:
            return None
        # from the deepest calls up, since each bound needs the costs of the one below
        for lower in range(-1, bound + 1):
            for g in self.reached[f]:
                if self.turns(f, g) and (g, lower) not in self.worked_out:
                    self.worked_out[(g, lower)] = self.cost_within(g, lower)
        return self.worked_out[(f, bound)]

    def cost_within(self, f, bound):
        """The cost of a function with a bound."""
        statements = [tree[2] for tree in self.program.trees if tree[0] == f][0]
        heads = sorted(self.program.loops[f])
        return added_up([1, self.cost_of_all(statements, f, bound, heads)])

    def cost_of_all(self, statements, f, bound, heads):
        return added_up([self.cost_of(statement, f, bound, heads) for statement in statements])

    def cost_of(self, statement, f, bound, heads):
        """The cost of a statement; heads are those of the loops from here on, in the order of the text."""
        word = statement[0]
        if word == "if":
            both = [self.cost_of_all(part, f, bound, heads) for part in statement[2:]]
            return None if None in both else 2 + max(both)
        if word == "while":
            rounds = self.rounds[(f, heads.pop(0))]
            inner = self.cost_of_all(statement[2], f, bound, heads)
            return None if rounds is None or inner is None else 2 + rounds * (2 + inner)
        if word == "call":
            return self.cost_of_call(f, bound, statement[2])
        return 1

    def cost_of_call(self, f, bound, g):
        if not self.turns(f, g):
            return added_up([1, self.cost_from_elsewhere(g)])
        if bound < 0:
            return 0
        return added_up([1, self.worked_out[(g, bound - 1)]])


def added_up(costs):
    """The sum of costs, None if one of them is not told."""
    return None if None in costs else sum(costs)


def judged_depths(program, paper, depths):
    check_taken(program, paper)
    check_depths(program, depths)
    return depths_fault(program, paper, depths)


def longest(program, paper, rankings, depths):
    check_taken(program, paper)
    if not are_rankings(program, paper, rankings):
        raise BadRankings(rankings)
    check_depths(program, depths)
    why = depths_fault(program, paper, depths)
    if why is not None:
        raise NotDeep(why)
    rounds = {key: most_rounds(rankings[key]) for key in rankings}
    bounds = {f: bound_at_entry(paper[1][f], tupled(depths[f])) for f in program.params}
    return Costs(program, rounds, bounds).cost_from_elsewhere("main")


def check_depths(program, depths):
    """The refusal of what is no dict from just all functions to expressions over their params."""
    if not is_by_function(program, depths):
        raise BadDepths(depths)
    if not all([is_expression_over(depths[f], program.params[f]) for f in program.params]):
        raise BadDepths(depths)


def are_rankings(program, paper, thing):
    """Whether it is a dict from (f, head) for just all loops to rankings that are taken."""
    if not isinstance(thing, dict) or not all([is_loop(program, key) for key in thing]):
        return False
    if len(thing) != sum([len(program.loops[f]) for f in program.loops]):
        return False
    return all([is_ranking_of(program, paper, key[0], key[1], thing[key]) for key in thing]) and all(
        [ranking_fault(program, paper, key[0], key[1], thing[key]) is None for key in thing])


def is_loop(program, key):
    """Whether it is a pair of a function and a head of it."""
    if not isinstance(key, tuple) or len(key) != 2 or not is_text(key[0]) or not is_integer(key[1]):
        return False
    return key[0] in program.loops and key[1] in program.loops[key[0]]


def depths_fault(program, paper, depths):
    """The first call by which right depths are not taken, None if they are."""
    reached = functions_reached(program)
    trees = {f: tupled(depths[f]) for f in program.params}
    for f in program.params:
        for place, numbers in enumerate(program.starts[f]):
            action = program.edges[f][numbers[0]][2] if numbers else ("skip",)
            if action[0] != "call" or action[2] not in reached[f] or f not in reached[action[2]]:
                continue
            for sides in sorted(paper[3][f][place]):
                if not is_deeper(program, paper[3][f][place][sides], trees, f, action):
                    return "deep", f, numbers[0], sides
    return None


def is_deeper(program, zone, depths, f, call):
    """Whether the depth falls by a call from a zone, and is not below 0 ahead of it; so of an empty zone."""
    shut = close(zone)
    if shut is None:
        return True
    view = View(shut)
    own = with_names(depths[f], {param: ("name", start_thing(param)) for param in program.params[f]})
    handed = with_names(depths[call[2]], dict(list(zip(program.params[call[2]], call[3]))))
    return is_at_most(view, ("sub", handed, own), -1) and is_at_most(view, ("sub", ("number", 0), own), 0)


def bound_at_entry(zone, depth):
    """The most of a depth at an entry, at least -1; -1 for an entry to which nobody comes, None if it is not told."""
    shut = close(zone)
    if shut is None:
        return -1
    view = View(shut)
    most = view.most(view.form(depth))
    return None if most is None else max(most, -1)
