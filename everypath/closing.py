"""Zones closed: what the deeds A, B, C, A, B, C leave of them."""

from math import gcd

from everypath.rests import ZERO, rest_met, rest_moved
from everypath.stripmath import reduce_strip


class Closing:
    """The bounds and rests of a zone while it is closed; number 0 is "0", the others are the things."""

    def __init__(self, zone):
        things, bounds, rests = zone
        self.nodes = ["0", *things]
        places = {node: at for at, node in enumerate(self.nodes)}
        self.rows = [[None for _ in self.nodes] for _ in self.nodes]
        for pair in bounds:
            self.rows[places[pair[0]]][places[pair[1]]] = bounds[pair]
        self.rests = [ZERO, *[tuple(rests[thing]) for thing in things]]

    def is_emptied(self):
        """Whether one of the deeds says that it is empty."""
        before = self.rests
        if not self.rounds_bounds() or not self.sums_bounds() or not self.sharpens_rests():
            return True
        # where only this holds the deeds change nothing when they are done again
        if self.rests == before and all([rest[0] <= 1 for rest in before]):
            return False
        return not self.rounds_bounds() or not self.sums_bounds() or not self.sharpens_rests()

    def rounds_bounds(self):
        """Deed A; False if it is empty."""
        for at, row in enumerate(self.rows):
            for to in range(len(row)):
                common = gcd(self.rests[at][0], self.rests[to][0])
                apart = self.rests[at][1] - self.rests[to][1]
                bound = row[to]
                if to == at or bound is None and common != 0:
                    continue
                if common != 0:
                    row[to] = bound - (bound - apart) % common
                elif bound is not None and bound < apart:
                    return False
                else:
                    row[to] = apart
        return True

    def sums_bounds(self):
        """Deed B; False if it is empty."""
        for at in range(len(self.rows)):
            self.rows[at][at] = 0
        for by, middle in enumerate(self.rows):
            onward = [(to, bound) for to, bound in enumerate(middle) if bound is not None and to != by]
            for at, row in enumerate(self.rows):
                first = row[by]
                if first is None or at == by:
                    continue
                for to, bound in onward:
                    if row[to] is None or first + bound < row[to]:
                        row[to] = first + bound
        return all([row[at] >= 0 for at, row in enumerate(self.rows)])

    def sharpens_rests(self):
        """Deed C; False if it is empty."""
        sharper = [self.rests[0]]
        for at in range(1, len(self.rows)):
            rest = self.sharpened(at)
            if rest is None or not self.is_met(at, rest):
                return False
            sharper.append(rest)
        self.rests = sharper
        return True

    def sharpened(self, at):
        """The rest of a thing with what those tell that it is bound to from both sides; None if nothing is left."""
        rest = self.rests[at]
        for to, bound in enumerate(self.rows[at]):
            back = self.rows[to][at]
            if to != at and bound is not None and back is not None and bound + back == 0 and rest is not None:
                rest = rest_met(rest, rest_moved(self.rests[to], bound))
        return rest

    def is_met(self, at, rest):
        """Whether an integer of the rest lies within the bounds of a thing against "0"."""
        low = self.rows[0][at]
        return reduce_strip(None if low is None else -low, self.rows[at][0], rest[0], rest[1]) is not None

    def left(self):
        """The zone that is left."""
        bounds = {}
        for at, row in enumerate(self.rows):
            for to, bound in enumerate(row):
                if bound is not None and to != at:
                    bounds[(self.nodes[at], self.nodes[to])] = bound
        return self.nodes[1:], bounds, dict(list(zip(self.nodes[1:], self.rests[1:])))


def close(zone):
    """The zone closed: always a new one, None if it is empty."""
    if zone is None:
        return None
    closing = Closing(zone)
    if closing.is_emptied():
        return None
    return closing.left()
