"""Lots of unknowns that hang together, and how many lists of integers meet their conditions.

SPANS are sets of integers as ascending lists of pairs (low, high), with gaps between them.
"""

from everypath.choices import facts_in, is_true


class Level:
    """What can be told once one unknown more has an integer.

    quotients: columns that are known then; straight: trees that bound the unknown by lines alone; others: trees that
    have to be tried for each integer.
    """

    def __init__(self, column):
        self.column = column
        self.quotients = []
        self.straight = []
        self.others = []


class Lot:
    """The integers of its unknowns are gone through one behind another, the greatest range that can be last."""

    def __init__(self, table, columns, trees):
        self.table = table
        self.integers = {}
        quotients = self.quotients_of(trees)
        self.levels = [Level(column) for column in self.in_order(columns, quotients)]
        self.places = {level.column: place for place, level in enumerate(self.levels)}
        for column in quotients:
            self.levels[self.place_of(column)].quotients.append(column)
        for tree in trees:
            self.put_tree(tree)

    def quotients_of(self, trees):
        """The columns of all quotients that the trees need, inner ones first."""
        found = {}
        waiting = [column for tree in trees for fact in facts_in(tree) for column in self.table.rows[fact][0]]
        while waiting:
            column = waiting.pop()
            if column < 0 and column not in found:
                found[column] = True
                waiting.extend(list(self.table.lines[-1 - column][1]))
        return sorted(found, reverse=True)

    def in_order(self, columns, quotients):
        """The unknowns, the one of the greatest range that stands in no quotient last."""
        within = {column: True for quotient in quotients for column in self.table.inner[-1 - quotient]}
        free = [(self.many_of(column), column) for column in columns if column not in within]
        last = [max(free)[1]] if free else []
        return [*[column for column in columns if column not in last], *last]

    def many_of(self, column):
        low, high = self.table.ranges[column]
        return high - low + 1

    def place_of(self, column):
        """The place of the level at which a column is known."""
        if column >= 0:
            return self.places[column]
        return max([self.places[inner] for inner in self.table.inner[-1 - column]], default=0)

    def put_tree(self, tree):
        """Puts a tree where all that it reads is known."""
        columns = [column for fact in facts_in(tree) for column in self.table.rows[fact][0]]
        place = max([self.place_of(column) for column in columns], default=0)
        level = self.levels[place]
        if any([column < 0 and self.place_of(column) == place for column in columns]):
            level.others.append(tree)
        else:
            level.straight.append(tree)

    def count_from(self, place):
        """How many lists of integers of the unknowns from this place on meet all, with those ahead as they are."""
        if place == len(self.levels):
            return 1
        level = self.levels[place]
        spans = [self.table.ranges[level.column]]
        for tree in level.straight:
            spans = spans_met(spans, self.spans_of(tree, level.column))
        if place == len(self.levels) - 1 and not level.others:
            return many_in(spans)
        many = 0
        for low, high in spans:
            for n in range(low, high + 1):
                if self.is_let(level, n):
                    many += self.count_from(place + 1)
        return many

    def is_let(self, level, n):
        """Gives the unknown of a level this integer, and tells whether it meets what has to be tried."""
        self.integers[level.column] = n
        for column in level.quotients:
            constant, factors = self.table.lines[-1 - column]
            self.integers[column] = (constant + self.sum_of(factors)) // self.table.divisors[-1 - column]
        return all([is_true(tree, self.table, self.integers) for tree in level.others])

    def sum_of(self, factors):
        return sum([factors[column] * self.integers[column] for column in factors])

    def spans_of(self, tree, column):
        """The spans of the integers of an unknown that meet a tree, all else that it reads being known."""
        low, high = self.table.ranges[column]
        if tree[0] == "and":
            return spans_met(self.spans_of(tree[1], column), self.spans_of(tree[2], column))
        if tree[0] == "or":
            return spans_joined(self.spans_of(tree[2], column), self.spans_of(tree[3], column))
        factors, bound = self.table.rows[tree[1]]
        rest = bound - sum([factors[other] * self.integers[other] for other in factors if other != column])
        return spans_at_most(factors.get(column, 0), rest, low, high)


def spans_met(spans, others):
    """The spans of the integers that are in both."""
    found = []
    at, to = 0, 0
    while at < len(spans) and to < len(others):
        low = max(spans[at][0], others[to][0])
        high = min(spans[at][1], others[to][1])
        if low <= high:
            found.append((low, high))
        if spans[at][1] < others[to][1]:
            at += 1
        else:
            to += 1
    return found


def spans_joined(spans, others):
    """The spans of the integers that are in one or the other."""
    found = []
    for low, high in sorted([*spans, *others]):
        if found and low <= found[-1][1] + 1:
            found[-1] = (found[-1][0], max(high, found[-1][1]))
        else:
            found.append((low, high))
    return found


def spans_at_most(factor, bound, low, high):
    """The spans of the integers from low to high which, times the factor, are at most the bound."""
    if factor > 0:
        high = min(high, bound // factor)
    elif factor < 0:
        low = max(low, -(bound // -factor))
    elif bound < 0:
        return []
    return [(low, high)] if low <= high else []


def many_in(spans):
    """How many integers they have."""
    return sum([high - low + 1 for low, high in spans])
