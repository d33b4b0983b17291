"""Conditions that come one behind another, over unknowns that do, and the least integers that meet them."""

from everypath.choices import Chooser, facts_in, is_true
from everypath.facts import FactTable
from everypath.pursuits import Denial, Pursuit


class Grounds:
    """A table of facts over the unknowns, the tree of each condition, and which unknowns it reads.

    inputs: the least integers that meet all conditions, if meet_condition was called behind each that was put in.
    """

    def __init__(self, ranges):
        self.table = FactTable(ranges)
        self.trees = []
        self.reads = []
        self.choices = 0
        self.inputs = [low for low, _ in self.table.ranges]

    def copied(self):
        grounds = Grounds([])
        grounds.table = self.table.copied()
        grounds.trees = list(self.trees)
        grounds.reads = list(self.reads)
        grounds.choices = self.choices
        grounds.inputs = list(self.inputs)
        return grounds

    def add_unknown(self, low, high):
        self.table.add_unknown(low, high)
        self.inputs.append(low)

    def add_unknowns(self, ranges):
        """Those that these ranges have behind the ones that there are."""
        for low, high in ranges[len(self.inputs):]:
            self.add_unknown(low, high)

    def add_condition(self, condition):
        """Puts a condition behind all others, and tells its index."""
        return self.put_condition(condition, len(self.trees))

    def put_condition(self, condition, index):
        """Puts a condition at this index among the others, and tells it."""
        chooser = Chooser(self.table, self.choices)
        tree = chooser.tree_of(condition)
        self.choices = chooser.choices
        self.trees.insert(index, tree)
        self.reads.insert(index, self.table.unknowns_of(facts_in(tree)))
        return index

    def are_met_by(self, numbers):
        """Whether these integers, one for each unknown, lie in the ranges and meet all conditions."""
        if not all([low <= n <= high for (low, high), n in zip(self.table.ranges, numbers)]):
            return False
        worths = self.table.worths(numbers)
        return all([is_true(tree, self.table, worths) for tree in self.trees])

    def meet_condition(self, index, many):
        """Makes inputs the least integers that meet this condition, too; if there are none, tells what found none.

        What does not hang together with this condition, among the first so many, stays as it is.
        """
        if is_true(self.trees[index], self.table, self.table.worths(self.inputs)):
            return None
        return self.meet_toward(index, many, {})

    def meet_toward(self, index, many, toward):
        """As meet_condition, but with the sum of unknowns times the factors toward, by columns, least first of all."""
        active = self.hanging_together(index, many)
        pursuit = Pursuit(self.table, self.trees, active, toward)
        numbers = pursuit.least()
        if numbers is None:
            return pursuit
        for at in active:
            for column in self.reads[at]:
                self.inputs[column] = numbers[column]
        return None

    def hanging_together(self, index, many):
        """The numbers, below many, of what shares unknowns with this one, at once or by way of others, ascending."""
        found = {index: True}
        columns = {column: True for column in self.reads[index]}
        before = 0
        while before < len(found):
            before = len(found)
            for at, reads in enumerate(self.reads[:many]):
                if at not in found and any([column in columns for column in reads]):
                    found[at] = True
                    columns.update({column: True for column in reads})
        return sorted(found)


def refutation_by(pursuit):
    """The refutation of all conditions that a pursuit which has found nothing comes to."""
    return Denial(pursuit).told_refutation()
