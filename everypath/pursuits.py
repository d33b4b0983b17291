"""The least integers that meet conditions over unknowns, or a refutation of the conditions."""

from heapq import heappop, heappush

from everypath.choices import alternatives_of, facts_chosen, facts_left, has_choice, open_choice
from everypath.lifting import lifted, used_facts
from everypath.solving import least_toward


class Part:
    """What is left of the conditions by what is chosen: the facts that must hold then, in their order.

    refutation: of the system of the facts of some part; choice: (number, index of its condition), then
    below has the parts for both sides of it.
    """

    def __init__(self, chosen, facts):
        self.chosen = chosen
        self.facts = facts
        self.refutation = None
        self.choice = None
        self.below = []


class Refuted:
    """Items that refute the system of these facts, and those facts that they use."""

    def __init__(self, items, facts, used):
        self.proof = items
        self.facts = facts
        self.used = used


class Pursuit:
    """Goes the choices of conditions, those with the least sum first, then those with the least integers.

    trees: those of all conditions; active: the numbers of those that are to be met, or refuted; toward: factors of
    unknowns, by columns, whose sum is to be least ahead of all else.
    """

    def __init__(self, table, trees, active, toward):
        self.table = table
        self.trees = trees
        self.active = active
        self.toward = toward
        self.refuted = []
        self.queue = []
        self.parts = 0
        self.root = self.new_part({})

    def least(self):
        """The least integers that meet all conditions, None if none do."""
        while self.queue:
            _, numbers, _, part = heappop(self.queue)
            worths = self.table.worths(numbers)
            if not self.chooses(part, worths):
                return numbers
        return None

    def new_part(self, chosen):
        """The part for what is chosen, refuted, or put into the queue."""
        facts = [fact for index in self.active for fact in facts_chosen(self.trees[index], chosen)]
        part = Part(chosen, facts)
        part.refutation = self.known(facts)
        if part.refutation is None:
            self.solve(part)
        return part

    def known(self, facts):
        """What refutes some of the facts, as far as it is known; None else."""
        there = {fact: True for fact in facts}
        for refuted in self.refuted:
            if all([fact in there for fact in refuted.used]):
                return refuted
        return None

    def solve(self, part):
        ranges, rows = self.table.system_by(part.facts)
        kind, found = least_toward(ranges, rows, [self.toward.get(column, 0) for column in range(len(ranges))])
        if kind == "none":
            part.refutation = Refuted(found, part.facts, used_facts(self.table, part.facts, found))
            self.refuted.append(part.refutation)
        else:
            self.parts += 1
            numbers = found[:len(self.table.ranges)]
            heappush(self.queue, (self.sum_of(numbers), numbers, self.parts, part))

    def sum_of(self, numbers):
        """The sum that is to be least."""
        return sum([self.toward[column] * numbers[column] for column in self.toward])

    def chooses(self, part, worths):
        """Parts by a choice of a condition that does not hold for these worths; False if all hold."""
        for index in self.active:
            number = open_choice(self.trees[index], part.chosen, self.table, worths)
            if number is not None:
                part.choice = (number, index)
                part.below = [self.new_part({**part.chosen, number: side}) for side in (0, 1)]
                return True
        return False


class Denial:
    """Writes refutations; TAKEN is a dict from the indices of conditions to the alternatives taken for them."""

    def __init__(self, pursuit):
        self.table = pursuit.table
        self.trees = pursuit.trees
        self.root = pursuit.root

    def told_refutation(self):
        return self.deny(self.root, {})

    def deny(self, part, taken):
        """The refutation of the conditions, with what is taken, that lie within a part."""
        while part.refutation is None:
            number, index = part.choice
            if index not in taken:
                return self.deny_all(part, taken, index)
            part = part.below[taken[index][1][number]]
        facts = facts_left(self.trees, {index: taken[index][0] for index in taken})
        missing = [fact for fact in part.refutation.used if fact not in facts]
        if missing:
            return self.deny_all(part, taken, self.owner(part, taken, missing[0]))
        return ("rows", lifted(self.table, part.refutation.proof, part.refutation.facts, facts))

    def deny_all(self, part, taken, index):
        """The refutation by all alternatives of a condition."""
        alternatives = alternatives_of(self.trees[index])
        return ("or", index, [self.deny(part, {**taken, index: alternative}) for alternative in alternatives])

    def owner(self, part, taken, fact):
        """The index of a condition not yet taken that has this fact whatever is chosen for it."""
        return [index for index, tree in enumerate(self.trees)
                if index not in taken and has_choice(tree) and fact in facts_chosen(tree, part.chosen)][0]
