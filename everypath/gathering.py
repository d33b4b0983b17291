"""All paths gone from side to side, the sides that no inputs take being refuted."""

from everypath.branches import branch_at_first
from everypath.grounds import refutation_by


class Gathering:
    """Goes the paths in their order, as long as there are not more than many.

    found: the branches that go no further; nodes: what makes the cover, each node ahead of what is within it: a
    branch, or the pursuit that found no inputs for a side.
    """

    def __init__(self, program, steps, many):
        self.many = many
        self.found = []
        self.nodes = []
        self.sides_to_go = []
        self.visit(branch_at_first(program, steps))

    def go(self):
        while self.sides_to_go and not self.are_too_many():
            branch, side = self.sides_to_go.pop()
            grounds = branch.grounds_by(side)
            pursuit = grounds.settle(len(grounds.trees) - 1)
            if pursuit is None:
                self.visit(branch.gone_by(side, grounds))
            else:
                self.nodes.append((None, pursuit))

    def visit(self, branch):
        """Has a branch among the nodes, and its sides, should it want one, gone next."""
        self.nodes.append((branch, None))
        if branch.wants_side():
            self.sides_to_go.extend([(branch, 1), (branch, 0)])
        else:
            self.found.append(branch)

    def are_too_many(self):
        return len(self.found) > self.many

    def told_cover(self):
        """The cover that the nodes make, put together from the last one on."""
        behind = []
        for branch, pursuit in self.nodes[::-1]:
            if pursuit is not None:
                behind.append(("never", refutation_by(pursuit)))
            elif branch.wants_side():
                one = behind.pop()
                behind.append(("sides", one, behind.pop()))
            else:
                behind.append(("path", list(branch.grounds.inputs)))
        return behind[0]


def gathered(program, steps, many):
    """The gathering of all paths, None if there are more than many."""
    gathering = Gathering(program, steps, many)
    gathering.go()
    return None if gathering.are_too_many() else gathering
