"""Boards: all rows that stand while a system is gone through, by numbers in the order in which they came.

A row over the unknowns x is a pair (factors, bound), factors a dict from unknowns to factors other than 0. The x are
told by the t of a lattice, which knows the equalities among the rows; so each row is one over the t, too, divided by
the common divisor of its factors there.
"""

from everypath.divisors import common_divisor
from everypath.lattices import Lattice, add_multiples, dot


class Board:
    """For each number the row over x (None, till it is asked for), the one over t, and what it is MADE of.

    The row over t is None for one that another one stands for. What it is made of, over t, is a dict from numbers
    to multipliers, None for what simply stands: a row of the system or one of a split.
    """

    def __init__(self, ranges, rows, toward):
        self.ranges = ranges
        self.toward = toward
        self.rows = all_rows(ranges, rows)
        self.many = len(self.rows)
        self.first_low = len(rows)
        self.over_t = [None for _ in self.rows]
        self.made = [None for _ in self.rows]
        self.equalities = []
        self.lattice = Lattice(len(ranges))
        self.find_equalities()
        self.sums = [toward, *[{at: 1} for at in range(len(ranges))]]
        self.lattice.order(self.sums)
        self.hopeless = None
        self.entered = [self.enter(number) for number in range(self.many)]
        self.standing = [number for number in self.entered if number is not None]

    def find_equalities(self):
        """Lets the lattice hold each two rows that are met only if both are with nothing to spare."""
        best = {}
        for number in range(self.many):
            factors, bound = self.rows[number]
            if factors:
                key, bound = divided_row(factors, bound)
                key = tuple(sorted(list(key.items())))
                if key not in best or bound < best[key][0]:
                    best[key] = (bound, number)
        for key in best:
            turned = tuple([(at, -factor) for at, factor in key])
            if key < turned and turned in best and best[key][0] + best[turned][0] == 0:
                self.equalities.append((self.divided(best[key][1]), self.divided(best[turned][1])))
                self.lattice.hold(len(self.equalities) - 1, dict(key), best[key][0])

    def divided(self, number):
        """The number of the row divided by the common divisor of its factors over x."""
        factors, bound = self.rows[number]
        if common_divisor(list(factors.values())) == 1:
            return number
        return self.put_behind(divided_row(factors, bound), None, {number: 1})

    def put_behind(self, row, over_t, made):
        self.rows.append(row)
        self.over_t.append(over_t)
        self.made.append(made)
        return len(self.rows) - 1

    def enter(self, number):
        """Brings a row over x to the t; tells the number of what stands for it there, None if nothing need stand."""
        row, bound = self.brought(self.rows[number])
        if not row:
            if bound < 0 and self.hopeless is None:
                self.hopeless = {number: 1}
            return None
        if common_divisor(list(row.values())) == 1:
            self.over_t[number] = (row, bound)
            return number
        return self.put_behind(None, divided_row(row, bound), {number: 1})

    def brought(self, row):
        """A row over x as one over t, not divided."""
        factors, bound = row
        along = self.lattice.along(factors)
        return {at: part for at, part in enumerate(along) if part != 0}, bound - dot(factors, self.lattice.start)

    def enter_low(self, place):
        """The number of the row by which the leading sum of a column has its least value by the ranges alone."""
        leading = self.lattice.leading[place]
        if leading > 0:
            return self.entered[self.first_low + 2 * (leading - 1)]
        made = {}
        bound = 0
        for at in self.toward:
            side = 0 if self.toward[at] > 0 else 1
            made[self.first_low + 2 * at + side] = abs(self.toward[at])
            bound -= self.toward[at] * self.ranges[at][side]
        row, bound = self.brought(({at: -self.toward[at] for at in self.toward}, bound))
        return self.put_behind(None, divided_row(row, bound), made)

    def enter_sum(self, multipliers):
        """The number of the sum of rows over t, each times its multiplier, divided by its common divisor."""
        factors = {}
        bound = 0
        for number in multipliers:
            row, own = self.over_t[number]
            add_multiples(factors, row, multipliers[number])
            bound += multipliers[number] * own
        factors = {at: factors[at] for at in factors if factors[at] != 0}
        return self.put_behind(None, divided_row(factors, bound), multipliers)


def all_rows(ranges, rows):
    """The rows of a system and those of its ranges, factors as dicts without 0s."""
    found = [({at: factor for at, factor in enumerate(factors) if factor != 0}, bound) for factors, bound in rows]
    for at, (low, high) in enumerate(ranges):
        found.append(({at: -1}, -low))
        found.append(({at: 1}, high))
    return found


def divided_row(factors, bound):
    """A row with factors other than 0 divided by their common divisor, the bound rounded down."""
    common = common_divisor(list(factors.values()))
    return {at: factors[at] // common for at in factors}, bound // common
