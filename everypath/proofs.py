"""Refutations written down from what a search has found: sums of rows over the unknowns x of a board."""

from everypath.boards import divided_row
from everypath.divisors import common_divisor, common_multiple
from everypath.lattices import add_multiples, dot


class Writer:
    """For each number of a row that is a sum: the multipliers of rows over x, with lesser numbers, that make it.

    If the number of a row less is told, which stands behind the rows of the system and lets only what is better than
    the best that a search found, then it writes that with this row nothing is let.
    """

    def __init__(self, board, less):
        self.board = board
        self.sums = {}
        self.less = None
        self.places = {number: number for number in range(board.many)}
        self.many = board.many
        if less is not None:
            self.less = board.enter(less)
            for number in range(board.first_low, board.many):
                self.places[number] = number + 1
            self.places[less] = board.first_low
            self.many += 1

    def items_below(self, root):
        """The items of the refutation that the nodes of a search make."""
        items = []
        waiting = [root]
        while waiting:
            node = waiting.pop()
            if node.below is None:
                items.append(("sums", self.lists(node)))
            else:
                at, bound, below = node.below
                items.append(("split", at, bound))
                waiting.extend(below[::-1])
        return items

    def proof_of(self, node):
        """The multipliers over t of rows whose sum lets nothing."""
        if node.proof is not None:
            return node.proof
        if node.floor is None or self.less is None:
            return self.board.hopeless
        denominator, multipliers = node.floor
        return {**multipliers, self.less: multipliers.get(self.less, 0) + denominator}

    def lists(self, node):
        """The lists of multipliers of a node that is left."""
        proof = self.proof_of(node)
        for number in self.made_of(proof, self.board.made):
            self.write(number)
        last = self.over_x(proof)
        needed = self.made_of(last, self.sums)
        places = dict(self.places)
        many = self.many
        for number in [*node.splits, *needed]:
            places[number] = many
            many += 1
        sums = [*[self.sums[number] for number in needed], last]
        many -= len(needed)
        return [listed(multipliers, places, many + at) for at, multipliers in enumerate(sums)]

    def made_of(self, multipliers, table):
        """The numbers of the sums that something is made of, by what the table has for them, ascending."""
        found = {}
        waiting = list(multipliers)
        while waiting:
            number = waiting.pop()
            if number not in found and self.board.made[number] is not None:
                found[number] = True
                waiting.extend(list(table[number]))
        return sorted(found)

    def write(self, number):
        """Finds what makes a row over x, and the row; and what makes the rows of all equalities with it."""
        board = self.board
        if number in self.sums:
            return
        if board.rows[number] is None:
            self.sums[number] = self.over_x(board.made[number])
            board.rows[number] = self.summed(self.sums[number])
        else:
            self.sums[number] = board.made[number]

    def over_x(self, multipliers):
        """Multipliers whose sum over x is one over t, but for what the common divisor divides, and equalities."""
        lattice = self.board.lattice
        factors = {}
        for number in multipliers:
            add_multiples(factors, self.board.rows[number][0], multipliers[number])
        common = common_divisor(lattice.along(factors))
        over = [(dot(factors, hold.column), hold) for hold in lattice.holds]
        over = [(times % common if common > 0 else times, hold) for times, hold in over]
        over = [(times, hold) for times, hold in over if times != 0]
        whole = common_multiple([hold.whole for _, hold in over])
        amounts = {}
        for times, hold in over:
            add_multiples(amounts, hold.multiples, -times * (whole // hold.whole))
        found = {number: multipliers[number] * whole for number in multipliers}
        for equality in amounts:
            self.add_equality(found, equality, amounts[equality])
        common = common_divisor(list(found.values()))
        return {number: found[number] // common for number in found if found[number] != 0}

    def add_equality(self, multipliers, equality, amount):
        """Adds the row of an equality that has this sign, so often."""
        if amount != 0:
            number = self.board.equalities[equality][0 if amount > 0 else 1]
            if self.board.made[number] is not None:
                self.write(number)
            multipliers[number] = multipliers.get(number, 0) + abs(amount)

    def summed(self, multipliers):
        """The row over x that the multipliers make."""
        factors = {}
        bound = 0
        for number in multipliers:
            row, own = self.board.rows[number]
            add_multiples(factors, row, multipliers[number])
            bound += multipliers[number] * own
        return divided_row({at: factors[at] for at in factors if factors[at] != 0}, bound)


def listed(multipliers, places, many):
    """Multipliers as a list for so many rows, each at its place."""
    found = [0 for _ in range(many)]
    for number in multipliers:
        found[places[number]] = multipliers[number]
    return found
