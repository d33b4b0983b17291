"""Refutations of conditions written down from a pursuit that has found no integers."""

from everypath.choices import alternatives_of, facts_chosen, facts_left, has_choice
from everypath.lifting import lifted


class Denial:
    """Writes refutations; TAKEN is a dict from the indices of conditions to the alternatives taken for them."""

    def __init__(self, pursuit):
        self.table = pursuit.table
        self.trees = pursuit.trees
        self.root = pursuit.root

    def told_refutation(self):
        return self.deny(self.root, {})

    def deny(self, part, taken):
        """The refutation of the conditions, with what is taken, that lie within a part."""
        while part.refutation is None:
            number, index = part.choice
            if index not in taken:
                return self.deny_all(part, taken, index)
            part = part.below[taken[index][1][number]]
        facts = facts_left(self.trees, {index: taken[index][0] for index in taken})
        missing = [fact for fact in part.refutation.used if fact not in facts]
        if missing:
            return self.deny_all(part, taken, self.owner(part, taken, missing[0]))
        lists = lifted(self.table, part.refutation.lists, part.refutation.facts, facts)
        return ("rows", [("sums", lists)])

    def deny_all(self, part, taken, index):
        """The refutation by all alternatives of a condition."""
        alternatives = alternatives_of(self.trees[index])
        return ("or", index, [self.deny(part, {**taken, index: alternative}) for alternative in alternatives])

    def owner(self, part, taken, fact):
        """The index of a condition not yet taken that has this fact whatever is chosen for it."""
        return [index for index, tree in enumerate(self.trees)
                if index not in taken and has_choice(tree) and fact in facts_chosen(tree, part.chosen)][0]
