"""Searches from corner to corner by cuts, for the least t of a board that are met, as lists compare."""

from everypath.corners import Corner
from everypath.multiples import add_multiples, without_zeros


class Search:
    """Goes on from the corner at which the leading sums of all columns have their least values by the ranges alone.

    found: the t that are met, refuted: multipliers of rows of the ledger whose sum lets nothing; None till it is done.
    """

    def __init__(self, board):
        self.board = board
        self.cuts = []
        self.found = None
        self.refuted = None
        self.corner = None
        if board.hopeless is None:
            self.corner = first_corner(board)
            self.settle()
        else:
            self.refuted = board.over_x({board.hopeless: 1})

    def is_done(self, cuts):
        """Goes on with so many cuts at most; False if they did not suffice."""
        while self.found is None and self.refuted is None:
            broken = self.first_broken()
            if broken is None:
                self.found = [start // denominator for start, _, denominator in self.corner.unknowns]
            elif cuts == 0:
                return False
            else:
                cuts -= 1
                self.cut(broken)
        return True

    def settle(self):
        """Goes on till all lines are met at the corner, or none can be."""
        number = self.worst_line()
        while number is not None:
            self.take(number)
            number = None if self.refuted is not None else self.worst_line()

    def take(self, number):
        """Goes on to the corner at which this line, which is not met, is met; or finds that none can be."""
        excess, multiples, whole = self.corner.grown(self.board.lines[number].row)
        slot = self.corner.slot_to_leave(multiples)
        if slot is None:
            proof = self.corner.by_rows(multiples)
            add_multiples(proof, {number: 1}, whole)
            self.refuted = self.board.refuted_by(proof)
        else:
            self.corner.put_in(number, slot, excess, multiples, whole)

    def worst_line(self):
        """The number of the line that is exceeded most, None if all are met."""
        starts, whole = self.corner.at_one_denominator()
        worst = None
        most = 0
        for number in [*self.board.standing, *self.cuts]:
            excess = self.board.lines[number].excess(starts, whole)
            if excess > most:
                worst, most = number, excess
        return worst

    def first_broken(self):
        """The first of the t whose value is no integer, None if all are."""
        for at, (start, _, denominator) in enumerate(self.corner.unknowns):
            if start % denominator != 0:
                return at
        return None

    def cut(self, broken):
        """Cuts by what is left over of integers in the multiples of one of the t."""
        _, multiples, whole = self.corner.unknowns[broken]
        made = self.corner.by_rows({slot: multiples[slot] % whole for slot in multiples})
        self.put_behind(self.board.sum_up(without_zeros(made)))

    def put_behind(self, number):
        """Goes on with one more line, which is not met at the corner; cuts that the corner is not on are dropped."""
        self.cuts = [cut for cut in self.cuts if cut in self.corner.slots]
        self.cuts.append(number)
        self.take(number)
        if self.refuted is None:
            self.settle()

    def lowest_line(self):
        """The line by which the first of the t is at least what it is at the corner."""
        return self.board.sum_up(self.corner.by_rows(self.corner.unknowns[0][1]))

    def lowest_first(self):
        """The least integer that the first of the t may be by the corner."""
        start, _, denominator = self.corner.unknowns[0]
        return -(-start // denominator)


def first_corner(board):
    many = len(board.lattice.columns)
    corner = Corner([[0, {at: 1}, 1] for at in range(many)], [None for _ in range(many)])
    for at in range(many):
        number = board.lowest(at)
        excess, multiples, whole = corner.grown(board.lines[number].row)
        corner.put_in(number, at, excess, multiples, whole)
    return corner
