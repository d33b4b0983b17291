"""Ledgers: rows over the unknowns of a system, by numbers, and what each of them is made of.

A row is a pair (factors, bound), factors a dict from unknowns to factors other than 0. MULTIPLIERS are a dict from
numbers of rows to how often each of them is taken.
"""

from everypath.multiples import add_multiples, common_divisor, without_zeros


class Ledger:
    """All rows of a system, in their order, and those that came behind them.

    made has for each number the multipliers of the rows with lesser numbers whose sum the row is, None for one that
    simply stands: a row of the system, or one that is let for a while. slices_left is how many searches of slices are
    let, None if as many as come.
    """

    def __init__(self, ranges, rows):
        self.slices_left = None
        self.ranges = ranges
        self.first_range = len(rows)
        self.rows = all_rows(ranges, rows)
        self.made = [None for _ in self.rows]
        self.many = len(self.rows)

    def put(self, row, made):
        self.rows.append(row)
        self.made.append(made)
        return len(self.rows) - 1

    def sum_up(self, multipliers):
        """The number of the sum of some rows, divided by the common divisor of its factors."""
        return self.put(divided_row(self.summed(multipliers)), multipliers)

    def summed(self, multipliers):
        factors = {}
        bound = 0
        for number in multipliers:
            row, own = self.rows[number]
            add_multiples(factors, row, multipliers[number])
            bound += multipliers[number] * own
        return without_zeros(factors), bound

    def range_row(self, unknown, side):
        """The number of the row that an unknown is at least its low (side 0), at most its high (side 1)."""
        return self.first_range + 2 * unknown + side

    def needed(self, multipliers):
        """The numbers of all rows that are made, of which the multipliers and one another make use, ascending."""
        found = {}
        waiting = list(multipliers)
        while waiting:
            number = waiting.pop()
            if number not in found and self.made[number] is not None:
                found[number] = True
                waiting.extend(list(self.made[number]))
        return sorted(found)

    def listed_sums(self, multipliers):
        """The lists of multipliers, as refutations have them, of a sum of rows none of which is let for a while."""
        needed = self.needed(multipliers)
        places = {number: self.many + at for at, number in enumerate(needed)}
        sums = [*[self.made[number] for number in needed], multipliers]
        return [listed(part, places, self.many + at) for at, part in enumerate(sums)]


def all_rows(ranges, rows):
    """The rows of a system and those of its ranges."""
    found = [({at: factor for at, factor in enumerate(factors) if factor != 0}, bound) for factors, bound in rows]
    for at, (low, high) in enumerate(ranges):
        found.append(({at: -1}, -low))
        found.append(({at: 1}, high))
    return found


def divided_row(row):
    """A row divided by the common divisor of its factors, the bound rounded down; as it is without factors."""
    factors, bound = row
    common = common_divisor(list(factors.values()))
    if common < 2:
        return row
    return {at: factors[at] // common for at in factors}, bound // common


def listed(multipliers, places, many):
    """Multipliers as a list for so many rows; places has where those stand that do not stand at their number."""
    found = [0 for _ in range(many)]
    for number in multipliers:
        found[places.get(number, number)] = multipliers[number]
    return found
