"""All integers that meet some equalities: a start and the sums of integer multiples of free columns.

Unknowns x are start + columns times t, t any integers, one for each column. The functionals undo the columns: each
tells the t of its column, but for a constant. What a column that is no more free had is told by its HOLD.
"""

from everypath.multiples import add_multiples, common_divisor, common_multiple, dot


class Hold:
    """A column that an equality holds; what undid it is the sum of equalities times multiples, over whole."""

    def __init__(self, column, multiples, whole):
        self.column = column
        self.multiples = multiples
        self.whole = whole


class Lattice:
    def __init__(self, many):
        self.start = [0] * many
        self.columns = [[1 if at == to else 0 for at in range(many)] for to in range(many)]
        self.functionals = [list(column) for column in self.columns]
        self.holds = []
        self.leading = []

    def hold(self, number, factors, worth):
        """Lets just those with factors times x equal to worth, if there are any; number is what it is called."""
        along = self.along(factors)
        common = common_divisor(along)
        left = worth - dot(factors, self.start)
        if common == 0 or left % common != 0:
            return
        at = self.gather(along, list(range(len(along))))
        if along[at] < 0:
            self.turn(at)
        column = self.columns.pop(at)
        del self.functionals[at]
        self.start = [one + left // common * part for one, part in zip(self.start, column)]
        multiples, whole = self.multiples_of(number, factors, common)
        self.holds.append(Hold(column, multiples, whole))

    def gather(self, along, places):
        """Changes the columns until along, what they come to, is other than 0 at one of the places; tells it."""
        while True:
            left = [at for at in places if along[at] != 0]
            best = min(left, key=lambda at: abs(along[at]))
            if len(left) == 1:
                return best
            for at in left:
                if at != best:
                    times = along[at] // along[best]
                    along[at] -= times * along[best]
                    self.lessen(at, best, times)

    def lessen(self, at, by, times):
        """Takes so many times a column from another one."""
        column, functional = self.columns[by], self.functionals[at]
        self.columns[at] = [one - times * part for one, part in zip(self.columns[at], column)]
        self.functionals[by] = [one + times * part for one, part in zip(self.functionals[by], functional)]

    def turn(self, at):
        self.columns[at] = [-part for part in self.columns[at]]
        self.functionals[at] = [-part for part in self.functionals[at]]

    def multiples_of(self, number, factors, common):
        """How (factors - what the holds make of them) / common is made of equalities: (multiples, whole)."""
        parts = [(dot(factors, hold.column), hold) for hold in self.holds]
        whole = common_multiple([hold.whole for _, hold in parts])
        multiples = {number: whole}
        for times, hold in parts:
            add_multiples(multiples, hold.multiples, -times * (whole // hold.whole))
        return lowest(multiples, whole * common)

    def order(self, sums):
        """Changes and orders the columns so that what these sums, dicts, are of x grows with t, as lists compare.

        The leading sum of each column is the first one that grows with it; it does not with any column behind.
        """
        self.leading = []
        for number, factors in enumerate(sums):
            done = len(self.leading)
            along = self.along(factors)
            places = [place for place in range(done, len(along)) if along[place] != 0]
            if not places:
                continue
            best = self.gather(along, places)
            if along[best] < 0:
                self.turn(best)
            self.exchange(done, best)
            self.leading.append(number)
            self.straighten(done, self.along(factors))

    def straighten(self, done, along):
        """Lessens the columns ahead by the one that is done, as far as what they come to stays from 0 on."""
        for place in range(done):
            times = along[place] // along[done]
            if times != 0:
                self.lessen(place, done, times)

    def reverse_columns(self):
        self.columns = self.columns[::-1]
        self.functionals = self.functionals[::-1]

    def exchange(self, one, other):
        for rows in (self.columns, self.functionals):
            rows[one], rows[other] = rows[other], rows[one]

    def along(self, factors):
        """What the columns come to by these factors."""
        return [dot(factors, column) for column in self.columns]

    def moved(self, numbers):
        """By how much the unknowns for these multiples of the columns differ from the start."""
        found = [0] * len(self.start)
        for number, column in zip(numbers, self.columns):
            found = [one + number * part for one, part in zip(found, column)]
        return found

    def unknowns_at(self, numbers):
        """The unknowns for these multiples of the columns."""
        return [one + part for one, part in zip(self.start, self.moved(numbers))]


def lowest(multiples, whole):
    """Both in lowest terms, without those that are 0."""
    common = common_divisor([whole, *list(multiples.values())])
    return {number: multiples[number] // common for number in multiples if multiples[number] != 0}, whole // common
