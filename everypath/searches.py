"""Searches for the least integers that meet the rows of a board, going from corner to corner, by cuts and splits."""

from everypath.corners import Corner


class Node:
    """A part of a search: its corner, the rows that stand, the cuts that do, the rows of splits, what came of it.

    proof: multipliers of rows whose sum lets nothing; below: (unknown, bound, the two nodes of a split).
    """

    def __init__(self, corner, standing, cuts, splits):
        self.corner = corner
        self.standing = standing
        self.cuts = cuts
        self.splits = splits
        self.cuts_made = 0
        self.proof = None
        self.below = None


class Search:
    """Goes a board with at most so many cuts a node; best is the least that it has found, as lists compare."""

    def __init__(self, board, cuts):
        self.board = board
        self.cuts = cuts
        self.best = None
        self.changes = 0
        self.root = Node(None, board.standing, [], [])
        if board.hopeless is None:
            self.root.corner = self.first_corner()
            self.waiting = [self.root]
        else:
            self.root.proof = board.hopeless
            self.waiting = []

    def is_done(self, changes):
        """Goes on; False if so many changes of corners did not suffice."""
        self.changes = changes
        while self.waiting:
            node = self.waiting.pop()
            if not self.is_gone(node):
                self.waiting.append(node)
                return False
            node.corner = None
        return True

    def first_corner(self):
        """The corner at which the leading sums of all columns have their least values by the ranges."""
        many = len(self.board.lattice.columns)
        corner = Corner([[0, {at: 1}, 1] for at in range(many)], [None for _ in range(many)])
        for at in range(many):
            number = self.board.enter_low(at)
            excess, multiples, whole = corner.grown(self.board.over_t[number])
            corner.put_in(number, at, excess, multiples, whole)
        return corner

    def is_gone(self, node):
        """Goes a node till it is met, hopeless, no better, or split; False if the changes did not suffice."""
        while self.changes > 0:
            self.changes -= 1
            if not self.is_settled(node):
                continue
            if node.proof is not None or self.is_no_better(node.corner):
                return True
            broken = first_broken(node.corner)
            if broken is None:
                self.best = [start // denominator for start, _, denominator in node.corner.unknowns]
                return True
            if node.cuts_made == self.cuts:
                self.part(node)
                return True
            self.cut(node, broken)
        return False

    def lowest_first(self):
        """The least integer that the first of the t may be by the rows alone, before any is cut or split."""
        while not self.is_settled(self.root):
            pass
        start, _, denominator = self.root.corner.unknowns[0]
        return -(-start // denominator)

    def is_settled(self, node):
        """Whether all rows are met at the corner, or none can be; else it takes one of those not met."""
        corner = node.corner
        number = self.worst_row(node)
        if number is None:
            return True
        excess, multiples, whole = corner.grown(self.board.over_t[number])
        slot = corner.slot_to_leave(multiples)
        if slot is None:
            node.proof = corner.by_rows(multiples)
            node.proof[number] = node.proof.get(number, 0) + whole
            return True
        corner.put_in(number, slot, excess, multiples, whole)
        return False

    def worst_row(self, node):
        """The number of the standing row that is exceeded most, None if all are met."""
        starts, whole = node.corner.at_one_denominator()
        over_t = self.board.over_t
        worst = None
        most = 0
        for number in [*node.standing, *node.cuts]:
            factors, bound = over_t[number]
            excess = -bound * whole
            for at in factors:
                excess += factors[at] * starts[at]
            if excess > most:
                worst, most = number, excess
        return worst

    def is_no_better(self, corner):
        """Whether nothing beyond the corner is better than the best that was found."""
        if self.best is None:
            return False
        for (start, _, denominator), found in zip(corner.unknowns, self.best):
            if start != found * denominator:
                return start > found * denominator
        return True

    def cut(self, node, broken):
        """Puts a row behind that what is left over of integers in the multiples of an unknown makes."""
        slots = node.corner.slots
        _, multiples, whole = node.corner.unknowns[broken]
        made = node.corner.by_rows({slot: multiples[slot] % whole for slot in multiples})
        node.cuts = [number for number in node.cuts if number in slots]
        node.cuts.append(self.board.enter_sum({number: made[number] for number in made if made[number] != 0}))
        node.cuts_made += 1

    def part(self, node):
        """Parts a node by the unknown that is farthest from integers; the nearer side is gone first."""
        at, start, whole = self.farthest(node.corner)
        bound = start // whole
        below = []
        for factor, limit in ((1, bound), (-1, -bound - 1)):
            number = self.board.put_behind(({at: factor}, limit), None, None)
            standing = [*node.standing, self.board.enter(number)]
            below.append(Node(node.corner.copied(), standing, node.cuts, [*node.splits, number]))
        node.below = (at, bound, below)
        if 2 * (start - bound * whole) > whole:
            self.waiting.extend(below)
        else:
            self.waiting.extend([below[1], below[0]])

    def farthest(self, corner):
        """The unknown whose value is farthest from integers: (its number, numerator, denominator)."""
        starts, whole = corner.at_one_denominator()
        lattice = self.board.lattice
        found = None
        most = 0
        for at, start in enumerate(lattice.start):
            worth = start * whole
            for column, part in zip(lattice.columns, starts):
                worth += column[at] * part
            apart = min(worth % whole, -worth % whole)
            if apart > most:
                found, most = (at, worth, whole), apart
        return found


def first_broken(corner):
    """The first of the t whose value is no integer, None if all are."""
    for at, (start, _, denominator) in enumerate(corner.unknowns):
        if start % denominator != 0:
            return at
    return None
