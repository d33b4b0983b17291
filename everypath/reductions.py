"""Bases of lattices made short, by a measure of lengths: the last columns are the longest of those that cannot be.

The measure is a matrix of integers, for each two columns what comes of both: the square of its length for a column
and itself. Of each column what is upright on all columns ahead counts.
"""


class Reduction:
    """The columns of a lattice while they are made short.

    sizes[at + 1] is the determinant of the measure of the columns up to at, sizes[0] 1; leans[at][to] over
    sizes[to + 1] is how often what is upright of column to is in column at.
    """

    def __init__(self, lattice, measure):
        self.lattice = lattice
        self.sizes = [1]
        self.leans = [[0 for _ in measure] for _ in measure]
        for at in range(len(measure)):
            for to in range(at + 1):
                worth = measure[at][to]
                for by in range(to):
                    worth = (self.sizes[by + 1] * worth - self.leans[at][by] * self.leans[to][by]) // self.sizes[by]
                self.leans[at][to] = worth
            self.sizes.append(self.leans[at][at])

    def shorten(self):
        """Makes the columns short."""
        at = 1
        while at < len(self.leans):
            self.straighten(at, at - 1)
            if self.is_exchange_due(at):
                self.exchange_ahead(at)
                at = max(1, at - 1)
            else:
                for to in reversed(range(at - 1)):
                    self.straighten(at, to)
                at += 1

    def straighten(self, at, to):
        """Takes column to from column at as often as it is in it, rounded."""
        times = nearest(self.leans[at][to], self.sizes[to + 1])
        if times != 0:
            self.lattice.lessen(at, to, times)
            self.leans[at][to] -= times * self.sizes[to + 1]
            for by in range(to):
                self.leans[at][by] -= times * self.leans[to][by]

    def is_exchange_due(self, at):
        """Whether a column is much shorter than the one ahead, as far as both are upright."""
        lean = self.leans[at][at - 1]
        return 4 * self.sizes[at + 1] * self.sizes[at - 1] < 3 * self.sizes[at] * self.sizes[at] - 4 * lean * lean

    def exchange_ahead(self, at):
        """Exchanges a column with the one ahead."""
        self.lattice.exchange(at, at - 1)
        one, other = self.leans[at], self.leans[at - 1]
        for by in range(at - 1):
            one[by], other[by] = other[by], one[by]
        lean = one[at - 1]
        fresh = (self.sizes[at - 1] * self.sizes[at + 1] + lean * lean) // self.sizes[at]
        for behind in self.leans[at + 1:]:
            old = behind[at]
            behind[at] = (self.sizes[at + 1] * behind[at - 1] - lean * old) // self.sizes[at]
            behind[at - 1] = (fresh * old + lean * behind[at]) // self.sizes[at + 1]
        self.sizes[at] = fresh
        other[at - 1] = fresh

    def nearest_to(self, point, scale):
        """Integers, one for each column, near the numerators of a point over scale."""
        left = list(point)
        for at in reversed(range(len(left))):
            times = nearest(left[at], scale)
            over = left[at] - times * scale
            left[at] = times
            for to in range(at):
                left[to] += over * self.leans[at][to] // self.sizes[to + 1]
        return left


def nearest(n, divisor):
    """The integer nearest to a quotient, the divisor being above 0."""
    return (2 * n + divisor) // (2 * divisor)
