"""Corners: where as many rows as there are unknowns are met with nothing to spare.

A ROW is a pair (factors, bound), factors a dict from unknowns to factors other than 0. At a corner each unknown is
(start + the sum of multiples times sparings) / denominator, a sparing being how much one of the corner's rows, its
SLOTS, has to spare. Each sparing grown alone makes the unknowns greater, as lists compare: so the corner is the
least of all that its rows let.
"""

from everypath.multiples import common_divisor, common_multiple


class Corner:
    """For each unknown [start, {slot: multiple}, denominator], and for each slot the number of its row."""

    def __init__(self, unknowns, slots):
        self.unknowns = unknowns
        self.slots = slots

    def copied(self):
        unknowns = [[start, {slot: multiples[slot] for slot in multiples}, denominator]
                    for start, multiples, denominator in self.unknowns]
        return Corner(unknowns, list(self.slots))

    def at_one_denominator(self):
        """The numerators of all unknowns here at one denominator, and this."""
        whole = common_multiple([denominator for _, _, denominator in self.unknowns])
        return [start * (whole // denominator) for start, _, denominator in self.unknowns], whole

    def grown(self, row):
        """How the row's sum less its bound grows from here: (excess, {slot: multiple}, denominator)."""
        factors, bound = row
        whole = common_multiple([self.unknowns[at][2] for at in factors])
        total = -bound * whole
        multiples = {}
        for at in factors:
            start, own, denominator = self.unknowns[at]
            times = factors[at] * (whole // denominator)
            total += times * start
            for slot in own:
                multiples[slot] = multiples.get(slot, 0) + times * own[slot]
        return total, {slot: multiples[slot] for slot in multiples if multiples[slot] != 0}, whole

    def by_rows(self, multiples):
        """Multiples of sparings by the numbers of their rows."""
        found = {}
        for slot in multiples:
            found[self.slots[slot]] = found.get(self.slots[slot], 0) + multiples[slot]
        return found

    def slot_to_leave(self, multiples):
        """The slot by which the new corner is the least one, if a row with these multiples comes in; None for none."""
        left = [slot for slot in multiples if multiples[slot] < 0]
        for _, own, _ in self.unknowns:
            if len(left) < 2:
                break
            best = left[0]
            found = []
            for slot in left:
                here = own.get(slot, 0) * multiples[best] - own.get(best, 0) * multiples[slot]
                if here > 0:
                    best = slot
                    found = [slot]
                elif here == 0:
                    found.append(slot)
            left = found
        return left[0] if left else None

    def put_in(self, number, slot, excess, multiples, whole):
        """The row of this number takes the slot; the others tell how it grows from here."""
        divisor = -multiples[slot]
        for unknown in self.unknowns:
            start, own, denominator = unknown
            times = own.get(slot, 0)
            if times == 0:
                continue
            fresh = {other: own[other] * divisor for other in own if other != slot}
            for other in multiples:
                if other != slot:
                    fresh[other] = fresh.get(other, 0) + times * multiples[other]
            fresh[slot] = times * whole
            reduce_unknown(unknown, start * divisor + times * excess, fresh, denominator * divisor)
        self.slots[slot] = number


def reduce_unknown(unknown, start, multiples, denominator):
    """Sets what an unknown is, in lowest terms."""
    if denominator < 0:
        start, denominator = -start, -denominator
        multiples = {slot: -multiples[slot] for slot in multiples}
    common = common_divisor([denominator, start, *list(multiples.values())])
    unknown[0] = start // common
    unknown[1] = {slot: multiples[slot] // common for slot in multiples if multiples[slot] != 0}
    unknown[2] = denominator // common
