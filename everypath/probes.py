"""Probes: the least values of a system by narrowed ranges alone, or a refutation with splits.

Where narrowing ends, the range of the first unknown that may have more than one value is parted in the middle: the
lower half is gone through ahead of the upper one, so that what is found first is least.
"""

# how many sums a refutation may have
SUMS = 1000
# how often ranges are narrowed in one part, since they may be narrowed by little each time
IN_A_PART = 400


class Part:
    """The ranges that are left, the reason of each of their ends, the rows to be looked at, the splits that lead here.

    A REASON is a number: that of a row of the system or its ranges, or behind these that of what a probe has noted.
    """

    def __init__(self, low, high, low_by, high_by, waiting, splits):
        self.low = low
        self.high = high
        self.low_by = low_by
        self.high_by = high_by
        self.waiting = waiting
        self.splits = splits

    def first_open(self):
        """The first unknown that may have more than one value, None if there is none."""
        for at, low in enumerate(self.low):
            if low < self.high[at]:
                return at
        return None


class Leaf:
    """A part that is refuted: the splits that lead there, the row that cannot be met, the reasons of its ends there."""

    def __init__(self, splits, fault, ends):
        self.splits = splits
        self.fault = fault
        self.ends = ends


class Probe:
    """Goes through the parts of a system, the least values first.

    notes: for each reason behind the rows either None, for a split, or (row, unknown, reasons of the ends that the
    others in the row have); gone: what was made of all parts so far, in their order: ("split", unknown, integer) or
    a Leaf; found: the values, as soon as there are some.
    """

    def __init__(self, ranges, rows):
        self.rows = [([(at, factor) for at, factor in enumerate(factors) if factor != 0], bound)
                     for factors, bound in rows]
        self.rows_with = [[] for _ in ranges]
        for number, (pairs, _) in enumerate(self.rows):
            for at, _ in pairs:
                self.rows_with[at].append(number)
        self.many = len(rows) + 2 * len(ranges)
        self.notes = []
        self.gone = []
        self.looks = 0
        self.found = None
        low_by = [len(rows) + 2 * at for at in range(len(ranges))]
        self.parts = [Part([low for low, _ in ranges], [high for _, high in ranges], low_by,
                           [reason + 1 for reason in low_by], list(range(len(rows))), [])]

    def is_settled(self, looks):
        """Goes on until values are found or all is refuted; False if more rows than that have to be looked at."""
        while self.parts and self.found is None:
            if self.looks > looks:
                return False
            self.visit(self.parts.pop())
        return True

    def visit(self, part):
        """Finds the values of a part, refutes it, or parts it."""
        fault = self.narrow_all(part)
        at = part.first_open()
        if fault is None and at is None:
            # some rows may not have been looked at again
            part.waiting = list(range(len(self.rows)))
            fault = self.narrow_all(part)
        if fault is not None:
            self.gone.append(Leaf(part.splits, fault, self.ends_at(part, fault)))
        elif at is None:
            self.found = part.low
        else:
            self.halve(part, at)

    def narrow_all(self, part):
        """Narrows the ranges by all rows that wait; the number of a row that cannot be met, None if there is none."""
        least = len(self.notes) + IN_A_PART
        queued = {number: True for number in part.waiting}
        while part.waiting and len(self.notes) < least:
            number = part.waiting.pop()
            del queued[number]
            self.looks += 1
            pairs, bound = self.rows[number]
            slack = bound - sum([factor * (part.low[at] if factor > 0 else part.high[at]) for at, factor in pairs])
            if slack < 0:
                return number
            narrower = [(at, factor) for at, factor in pairs
                        if slack // abs(factor) < part.high[at] - part.low[at]]
            if narrower:
                self.narrow(part, number, narrower, slack)
                for at, _ in narrower:
                    for other in self.rows_with[at]:
                        if other != number and other not in queued:
                            queued[other] = True
                            part.waiting.append(other)
        return None

    def narrow(self, part, number, narrower, slack):
        """Sets the ends that a row with so much slack lets for some of its unknowns."""
        reasons = self.ends_at(part, number)
        for at, factor in narrower:
            reason = self.note((number, at, reasons))
            if factor > 0:
                part.high[at] = part.low[at] + slack // factor
                part.high_by[at] = reason
            else:
                part.low[at] = part.high[at] - slack // -factor
                part.low_by[at] = reason

    def note(self, thing):
        self.notes.append(thing)
        return self.many + len(self.notes) - 1

    def ends_at(self, part, number):
        """The reasons of those ends of the unknowns of a row at which its sum is least."""
        return [part.low_by[at] if factor > 0 else part.high_by[at] for at, factor in self.rows[number][0]]

    def halve(self, part, at):
        """Parts a part in the middle of the range of an unknown."""
        middle = (part.low[at] + part.high[at]) // 2
        self.gone.append(("split", at, middle))
        reason = self.note(None)
        splits = [*part.splits, reason]
        upper = Part(list(part.low), list(part.high), list(part.low_by), list(part.high_by),
                     list(self.rows_with[at]), splits)
        upper.low[at] = middle + 1
        upper.low_by[at] = reason
        part.high[at] = middle
        part.high_by[at] = reason
        part.waiting = list(self.rows_with[at])
        part.splits = splits
        self.parts.extend([upper, part])

    def told_items(self):
        """The items of the refutation by all that was gone, None if they have too many sums."""
        needed = [self.needed_for(thing) if isinstance(thing, Leaf) else [] for thing in self.gone]
        if sum([1 + len(reasons) for reasons in needed]) > SUMS:
            return None
        return [("sums", self.refuting_sums(thing, reasons)) if isinstance(thing, Leaf) else thing
                for thing, reasons in zip(self.gone, needed)]

    def needed_for(self, leaf):
        """The reasons of which a leaf makes use, but for rows and splits, ascending."""
        needed = {}
        waiting = list(leaf.ends)
        while waiting:
            reason = waiting.pop()
            if reason >= self.many and reason not in needed and self.notes[reason - self.many] is not None:
                needed[reason] = True
                waiting.extend(self.notes[reason - self.many][2])
        return sorted(needed)

    def refuting_sums(self, leaf, needed):
        """The lists of multipliers by which a row that cannot be met refutes a part."""
        ahead = self.many + len(leaf.splits)
        places = {reason: self.many + at for at, reason in enumerate(leaf.splits)}
        places.update({reason: ahead + at for at, reason in enumerate(needed)})
        sums = [self.notes[reason - self.many] for reason in needed]
        sums.append((leaf.fault, None, leaf.ends))
        return [self.listed_sum(row, but, reasons, places, ahead + at)
                for at, (row, but, reasons) in enumerate(sums)]

    def listed_sum(self, row, but, reasons, places, many):
        """Multipliers of so many rows for a row and the ends of all its unknowns but one."""
        found = [0 for _ in range(many)]
        found[row] = 1
        for (at, factor), reason in zip(self.rows[row][0], reasons):
            if at != but:
                found[places.get(reason, reason)] += abs(factor)
        return found


def probed_values(ranges, rows, looks):
    """("values", values) of the least ones, ("none", items of a refutation), or None.

    None stands where rows would have to be looked at more often than that, or the refutation would be too long.
    """
    probe = Probe(ranges, rows)
    if not probe.is_settled(looks):
        return None
    if probe.found is not None:
        return "values", probe.found
    items = probe.told_items()
    return None if items is None else ("none", items)
