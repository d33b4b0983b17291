"""Costs: how many steps functions take at most, by how often loops go round and how deep functions are called."""

DEEPEST = 60


class Costs:
    """The costs of functions, None where one is not told.

    rounds: how often the loop of (f, head) goes round at most; bounds: for those that turn how deep they are called
    from elsewhere; either may be None for what is not told.
    """

    def __init__(self, program, rounds, bounds):
        self.program = program
        self.rounds = rounds
        self.bounds = bounds
        self.reached = functions_reached(program)
        self.worked_out = {}

    def turns(self, f, g):
        """Whether each of the two functions calls the other one, at once or through others."""
        return g in self.reached[f] and f in self.reached[g]

    def cost_from_elsewhere(self, f):
        """The cost of a function where it is called by one with which it does not turn, or by nobody."""
        if not self.turns(f, f):
            if (f, None) not in self.worked_out:
                self.worked_out[(f, None)] = self.cost_within(f, None)
            return self.worked_out[(f, None)]
        bound = self.bounds[f]
        if bound is None or bound > DEEPEST:
            return None
        # from the deepest calls up, since each bound needs the costs of the one below
        for lower in range(-1, bound + 1):
            for g in self.reached[f]:
                if self.turns(f, g) and (g, lower) not in self.worked_out:
                    self.worked_out[(g, lower)] = self.cost_within(g, lower)
        return self.worked_out[(f, bound)]

    def cost_within(self, f, bound):
        """The cost of a function with a bound."""
        statements = [tree[2] for tree in self.program.trees if tree[0] == f][0]
        heads = sorted(self.program.loops[f])
        return added_up([1, self.cost_of_all(statements, f, bound, heads)])

    def cost_of_all(self, statements, f, bound, heads):
        return added_up([self.cost_of(statement, f, bound, heads) for statement in statements])

    def cost_of(self, statement, f, bound, heads):
        """The cost of a statement; heads are those of the loops from here on, in the order of the text."""
        word = statement[0]
        if word == "if":
            both = [self.cost_of_all(part, f, bound, heads) for part in statement[2:]]
            return None if None in both else 2 + max(both)
        if word == "while":
            rounds = self.rounds[(f, heads.pop(0))]
            inner = self.cost_of_all(statement[2], f, bound, heads)
            return None if rounds is None or inner is None else 2 + rounds * (2 + inner)
        if word == "call":
            return self.cost_of_call(f, bound, statement[2])
        return 1

    def cost_of_call(self, f, bound, g):
        if not self.turns(f, g):
            return added_up([1, self.cost_from_elsewhere(g)])
        if bound < 0:
            return 0
        return added_up([1, self.worked_out[(g, bound - 1)]])


def added_up(costs):
    """The sum of costs, None if one of them is not told."""
    return None if None in costs else sum(costs)


def functions_reached(program):
    """For each function a dict of those that it calls, at once or through others."""
    called = {f: [edge[2][2] for edge in program.edges[f] if edge[2][0] == "call"] for f in program.edges}
    found = {}
    for f in called:
        found[f] = {}
        waiting = list(called[f])
        while waiting:
            g = waiting.pop()
            if g not in found[f]:
                found[f][g] = True
                waiting.extend(called[g])
    return found
