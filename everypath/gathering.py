"""All paths gone from side to side, the sides that no inputs take being refuted."""

from everypath.grounds import refutation_by


class Gathering:
    """Goes the paths in their order, as long as there are not more than many.

    found: the branches that go no further; nodes: what makes the cover, each node ahead of what is within it: a
    branch, or the pursuit that found no inputs for a side.
    """

    def __init__(self, branch, many):
        self.many = many
        self.found = []
        self.nodes = []
        self.forks_to_go = []
        self.visit(branch)

    def go_through(self):
        while self.forks_to_go and not self.are_too_many():
            fork = self.forks_to_go.pop()
            pursuit = fork.settle_side()
            if pursuit is None:
                self.visit(fork.gone_on())
            else:
                self.nodes.append((None, pursuit))

    def visit(self, branch):
        """Has a branch among the nodes, and its sides, should it want one, gone next."""
        self.nodes.append((branch, None))
        if branch.trail.wants_side():
            self.forks_to_go.extend(branch.forks()[::-1])
        else:
            self.found.append(branch)

    def are_too_many(self):
        return len(self.found) > self.many

    def told_paths(self):
        """(sides, why, least inputs) of all paths."""
        return [(list(branch.trail.sides), branch.why_for(branch.grounds.inputs), list(branch.grounds.inputs))
                for branch in self.found]

    def told_cover(self):
        """The cover that the nodes make, put together from the last one on."""
        behind = []
        for branch, pursuit in self.nodes[::-1]:
            if pursuit is not None:
                behind.append(("never", refutation_by(pursuit)))
            elif branch.trail.wants_side():
                one = behind.pop()
                behind.append(("sides", one, behind.pop()))
            else:
                behind.append(("path", list(branch.grounds.inputs)))
        return behind[0]


def gathered(branch, many):
    """The gathering of all paths that go on from a branch, None if there are more than many."""
    gathering = Gathering(branch, many)
    gathering.go_through()
    return None if gathering.are_too_many() else gathering
