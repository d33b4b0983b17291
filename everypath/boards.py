"""Boards: rows of a ledger told by the t of a lattice, which holds the equalities among them."""

from everypath.lattices import Lattice
from everypath.ledgers import divided_row
from everypath.multiples import add_multiples, common_divisor, common_multiple, dot, without_zeros


class Line:
    """A row over t, its factors without a common divisor; written: the number of just it over x, None till then.

    It is what comes of the row of the ledger called source, or else of other lines, by their multipliers.
    """

    def __init__(self, row, source, multipliers):
        self.row = row
        self.source = source
        self.multipliers = multipliers
        self.written = None

    def excess(self, numerators, whole):
        """By how much the t, numerators over whole, exceed it, times whole."""
        factors, bound = self.row
        return dot(factors, numerators) - bound * whole


class Board:
    """Some rows of a ledger, by their numbers, and the lines that they and what is made of them come to.

    hopeless: the number of a row that lets nothing, None if there is none.
    """

    def __init__(self, ledger, numbers):
        self.ledger = ledger
        self.numbers = numbers
        self.lattice = Lattice(len(ledger.ranges))
        self.equalities = []
        self.find_equalities()
        self.sums = []
        self.lines = []
        self.standing = []
        self.hopeless = None

    def find_equalities(self):
        """Lets the lattice hold each two rows that are met only if both are with nothing to spare."""
        best = {}
        for number in self.numbers:
            factors, bound = divided_row(self.ledger.rows[number])
            if factors:
                key = tuple(sorted(list(factors.items())))
                if key not in best or bound < best[key][0]:
                    best[key] = (bound, number)
        for key in best:
            turned = tuple([(at, -factor) for at, factor in key])
            if key < turned and turned in best and best[key][0] + best[turned][0] == 0:
                self.equalities.append((self.divided(best[key][1]), self.divided(best[turned][1])))
                self.lattice.hold(len(self.equalities) - 1, dict(key), best[key][0])

    def divided(self, number):
        """The number of the row divided by the common divisor of its factors over x."""
        if common_divisor(list(self.ledger.rows[number][0].values())) == 1:
            return number
        return self.ledger.sum_up({number: 1})

    def stand(self, sums):
        """Orders the t by sums over x and brings all rows there."""
        self.sums = sums
        self.lattice.order(sums)
        self.lines = []
        brought = [self.bring(number) for number in self.numbers]
        self.standing = [line for line in brought if line is not None]

    def bring(self, number):
        """The number of the line that a row comes to, None if it has no t."""
        row, bound = self.ledger.rows[number]
        along = self.lattice.along(row)
        factors = {at: part for at, part in enumerate(along) if part != 0}
        bound -= dot(row, self.lattice.start)
        if not factors:
            if bound < 0:
                self.hopeless = number
            return None
        line = Line(divided_row((factors, bound)), number, {})
        if common_divisor(list(factors.values())) == 1:
            line.written = number
        return self.put_line(line)

    def put_line(self, line):
        self.lines.append(line)
        return len(self.lines) - 1

    def lowest(self, place):
        """The line by which the leading sum of a column has its least value by the ranges alone."""
        factors = self.sums[self.lattice.leading[place]]
        multipliers = {self.ledger.range_row(at, 0 if factors[at] > 0 else 1): abs(factors[at]) for at in factors}
        if list(multipliers.values()) == [1]:
            return self.bring(list(multipliers)[0])
        return self.bring(self.ledger.sum_up(multipliers))

    def sum_up(self, multipliers):
        """The line that lines come to, each times its multiplier."""
        factors = {}
        bound = 0
        for number in multipliers:
            row, own = self.lines[number].row
            add_multiples(factors, row, multipliers[number])
            bound += multipliers[number] * own
        return self.put_line(Line(divided_row((without_zeros(factors), bound)), None, multipliers))

    def write(self, number):
        """The number in the ledger of the row over x that is just this line."""
        for at in self.unwritten([number]):
            line = self.lines[at]
            multipliers = {line.source: 1} if line.source is not None else self.rows_of(line.multipliers)
            line.written = self.ledger.sum_up(self.over_x(multipliers))
        return self.lines[number].written

    def unwritten(self, numbers):
        """The lines that are yet to be written for these ones to be, ascending."""
        found = {}
        waiting = list(numbers)
        while waiting:
            at = waiting.pop()
            if at not in found and self.lines[at].written is None:
                found[at] = True
                waiting.extend(list(self.lines[at].multipliers))
        return sorted(found)

    def rows_of(self, multipliers):
        """Multipliers of lines as those of the rows that are just these lines."""
        found = {}
        for at in multipliers:
            add_multiples(found, {self.write(at): 1}, multipliers[at])
        return found

    def refuted_by(self, multipliers):
        """Lines whose sum lets nothing as rows of the ledger whose sum does."""
        return self.over_x(self.rows_of(multipliers))

    def over_x(self, multipliers):
        """Multipliers of rows whose sum over x is one over t, but for what the common divisor divides."""
        factors = self.ledger.summed(multipliers)[0]
        common = common_divisor(self.lattice.along(factors))
        over = [(dot(factors, hold.column), hold) for hold in self.lattice.holds]
        over = [(times % common if common > 0 else times, hold) for times, hold in over]
        over = [(times, hold) for times, hold in over if times != 0]
        whole = common_multiple([hold.whole for _, hold in over])
        amounts = {}
        for times, hold in over:
            add_multiples(amounts, hold.multiples, -times * (whole // hold.whole))
        found = {number: multipliers[number] * whole for number in multipliers}
        for equality in amounts:
            number = self.equalities[equality][0 if amounts[equality] > 0 else 1]
            add_multiples(found, {number: 1}, abs(amounts[equality]))
        common = common_divisor(list(found.values()))
        return {number: found[number] // common for number in found if found[number] != 0}
