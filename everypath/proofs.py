"""Refutations written down from what a search has found: sums of rows over the unknowns x of a board."""

from everypath.boards import divided_row
from everypath.divisors import common_divisor, common_multiple
from everypath.lattices import add_multiples, dot


class Writer:
    """For each number of a row that is a sum: the multipliers of rows over x, with lesser numbers, that make it."""

    def __init__(self, board):
        self.board = board
        self.sums = {}

    def items_below(self, root):
        """The items of the refutation that the nodes of a search make."""
        items = []
        waiting = [root]
        while waiting:
            node = waiting.pop()
            if node.below is None:
                items.append(("sums", self.lists(node)))
            else:
                at, bound, below = node.below
                items.append(("split", at, bound))
                waiting.extend(below[::-1])
        return items

    def lists(self, node):
        """The lists of multipliers of a node that has a proof."""
        for number in self.made_of(node.proof, self.board.made):
            self.write(number)
        last = self.over_x(node.proof)
        needed = self.made_of(last, self.sums)
        many = self.board.many + len(node.splits)
        places = {number: self.board.many + at for at, number in enumerate([*node.splits, *needed])}
        sums = [*[self.sums[number] for number in needed], last]
        return [listed(multipliers, places, many + at) for at, multipliers in enumerate(sums)]

    def made_of(self, multipliers, table):
        """The numbers of the sums that something is made of, by what the table has for them, ascending."""
        found = {}
        waiting = list(multipliers)
        while waiting:
            number = waiting.pop()
            if number not in found and self.board.made[number] is not None:
                found[number] = True
                waiting.extend(list(table[number]))
        return sorted(found)

    def write(self, number):
        """Finds what makes a row over x, and the row; and what makes the rows of all equalities with it."""
        board = self.board
        if number in self.sums:
            return
        if board.rows[number] is None:
            self.sums[number] = self.over_x(board.made[number])
            board.rows[number] = self.summed(self.sums[number])
        else:
            self.sums[number] = board.made[number]

    def over_x(self, multipliers):
        """Multipliers whose sum over x is one over t, but for what the common divisor divides, and equalities."""
        lattice = self.board.lattice
        factors = {}
        for number in multipliers:
            add_multiples(factors, self.board.rows[number][0], multipliers[number])
        common = common_divisor(lattice.along(factors))
        over = [(dot(factors, hold.column), hold) for hold in lattice.holds]
        over = [(times % common if common > 0 else times, hold) for times, hold in over]
        over = [(times, hold) for times, hold in over if times != 0]
        whole = common_multiple([hold.whole for _, hold in over])
        amounts = {}
        for times, hold in over:
            add_multiples(amounts, hold.multiples, -times * (whole // hold.whole))
        found = {number: multipliers[number] * whole for number in multipliers}
        for equality in amounts:
            self.add_equality(found, equality, amounts[equality])
        common = common_divisor(list(found.values()))
        return {number: found[number] // common for number in found if found[number] != 0}

    def add_equality(self, multipliers, equality, amount):
        """Adds the row of an equality that has this sign, so often."""
        if amount != 0:
            number = self.board.equalities[equality][0 if amount > 0 else 1]
            if self.board.made[number] is not None:
                self.write(number)
            multipliers[number] = multipliers.get(number, 0) + abs(amount)

    def summed(self, multipliers):
        """The row over x that the multipliers make."""
        factors = {}
        bound = 0
        for number in multipliers:
            row, own = self.board.rows[number]
            add_multiples(factors, row, multipliers[number])
            bound += multipliers[number] * own
        return divided_row({at: factors[at] for at in factors if factors[at] != 0}, bound)


def listed(multipliers, places, many):
    """Multipliers as a list for so many rows; places has where those stand that do not stand at their number."""
    found = [0 for _ in range(many)]
    for number in multipliers:
        found[places.get(number, number)] = multipliers[number]
    return found
