"""Facts over unknowns as rows: each div and mod piece has an unknown more, its QUOTIENT.

COLUMNS are numbers: those of the unknowns from 0 up, those of the quotients of all facts that were brought from -1
down, in the order in which they are met, inner ones first; so more unknowns may come at any time. A LINE is a pair
(constant, factors), factors a dict from columns.
"""

from everypath.folds import sum_of
from everypath.multiples import add_multiples
from everypath.stripmath import alone, divided, multiple, reduce_strip, remaining, total

UNKNOWN = 0
DIV = 1
MOD = 2


class FactTable:
    """The facts that were brought, by numbers, each the row of its line, and the columns of quotients that it meets.

    Of each quotient there are the line and the strip of what is divided, what unknowns it reads, and by what.
    """

    def __init__(self, ranges):
        self.ranges = []
        self.columns = {}
        self.quotient_numbers = {}
        self.lines = []
        self.inner = []
        self.strips = []
        self.divisors = []
        self.fact_numbers = {}
        self.rows = []
        self.meets = []
        for low, high in ranges:
            self.add_unknown(low, high)

    def copied(self):
        table = FactTable(self.ranges)
        table.quotient_numbers = {key: self.quotient_numbers[key] for key in self.quotient_numbers}
        table.lines = list(self.lines)
        table.inner = list(self.inner)
        table.strips = list(self.strips)
        table.divisors = list(self.divisors)
        table.fact_numbers = {key: self.fact_numbers[key] for key in self.fact_numbers}
        table.rows = list(self.rows)
        table.meets = list(self.meets)
        return table

    def add_unknown(self, low, high):
        """One unknown more, behind those that there are."""
        self.columns[f"u{len(self.ranges)}"] = len(self.ranges)
        self.ranges.append((low, high))

    def bring(self, fact):
        """The number of a fact (e, f), both plain."""
        met = []
        one, other = self.line_of(fact[0], met), self.line_of(fact[1], met)
        factors = dict(one[1])
        add_multiples(factors, other[1], -1)
        factors = {column: factors[column] for column in sorted(factors) if factors[column] != 0}
        bound = other[0] - one[0]
        key = (tuple(list(factors.items())), bound, tuple(met))
        if key not in self.fact_numbers:
            self.fact_numbers[key] = len(self.rows)
            self.rows.append((factors, bound))
            self.meets.append(list(dict([(column, True) for column in met])))
        return self.fact_numbers[key]

    def line_of(self, expression, met):
        """The line of a plain expression; the columns of its quotients are put behind what is met."""
        def of_name(name):
            return 0, [((UNKNOWN, self.columns[name]), 1)]

        def of_quotient(part, inner):
            number = self.quotient(inner, part[2])
            met.append(-1 - number)
            return 0, [((DIV if part[0] == "div" else MOD, number), 1)]

        return self.line_of_sum(sum_of(expression, of_name, of_quotient))

    def quotient(self, form, n):
        """The number of the quotient of what has this sum by n."""
        constant, terms = form
        key = (constant, tuple(terms), n)
        if key not in self.quotient_numbers:
            self.quotient_numbers[key] = len(self.lines)
            self.lines.append(self.line_of_sum(form))
            self.inner.append(self.unknowns_among(list(self.lines[-1][1])))
            self.strips.append(self.strip_of_sum(form))
            self.divisors.append(n)
        return self.quotient_numbers[key]

    def unknowns_of(self, facts):
        """The columns of the unknowns that facts read, ascending."""
        return self.unknowns_among([column for fact in facts for column in [*self.rows[fact][0], *self.meets[fact]]])

    def unknowns_among(self, columns):
        """The columns of the unknowns that these are, or that these quotients read, ascending."""
        found = set()
        for column in columns:
            for unknown in [column] if column >= 0 else self.inner[-1 - column]:
                found.add(unknown)
        return sorted(found)

    def line_of_sum(self, form):
        """The line of a sum whose pieces are unknowns, divs and mods by their numbers."""
        constant, terms = form
        factors = {}
        for (kind, number), factor in terms:
            if kind == UNKNOWN:
                add_multiples(factors, {number: 1}, factor)
            elif kind == DIV:
                add_multiples(factors, {-1 - number: 1}, factor)
            else:
                own, inner = self.lines[number]
                constant += factor * own
                add_multiples(factors, inner, factor)
                add_multiples(factors, {-1 - number: self.divisors[number]}, -factor)
        return constant, {column: factors[column] for column in factors if factors[column] != 0}

    def strip_of_sum(self, form):
        """The strip of such a sum."""
        constant, terms = form
        strip = alone(constant)
        for (kind, number), factor in terms:
            strip = total(strip, multiple(factor, self.piece_strip(kind, number)))
        return strip

    def piece_strip(self, kind, number):
        if kind == UNKNOWN:
            low, high = self.ranges[number]
            return reduce_strip(low, high, 1, 0)
        if kind == DIV:
            return divided(self.strips[number], self.divisors[number])
        return remaining(self.strips[number], self.divisors[number])

    def column_range(self, column):
        if column >= 0:
            return self.ranges[column]
        return self.piece_strip(DIV, -1 - column)[:2]

    def met_by(self, facts):
        """The columns of the quotients of facts, in the order in which they are met."""
        return list(dict([(column, True) for fact in facts for column in self.meets[fact]]))

    def system_by(self, facts):
        """The system of facts, by their numbers."""
        quotients = self.met_by(facts)
        columns = [*list(range(len(self.ranges))), *quotients]
        rows = [self.rows[fact] for fact in facts]
        for column in quotients:
            rows.extend(self.quotient_rows(column))
        return ([self.column_range(column) for column in columns],
                [([factors.get(column, 0) for column in columns], bound) for factors, bound in rows])

    def quotient_rows(self, column):
        """The two rows that tell what a quotient is."""
        number = -1 - column
        constant, factors = self.lines[number]
        n = self.divisors[number]
        above = {inner: -factors[inner] for inner in factors}
        above[column] = n
        return (above, constant), ({**factors, column: -n}, n - 1 - constant)

    def worths(self, numbers):
        """What all columns are for these integers of the unknowns: a dict."""
        found = dict(enumerate(numbers))
        for number, (constant, factors) in enumerate(self.lines):
            inner = constant + sum([factors[column] * found[column] for column in factors])
            found[-1 - number] = inner // self.divisors[number]
        return found

    def is_true(self, fact, worths):
        factors, bound = self.rows[fact]
        return sum([factors[column] * worths[column] for column in factors]) <= bound
