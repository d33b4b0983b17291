"""Branches: trails that are parted where a side is wanted, each with the grounds of its conditions."""

from everypath.evaluating import value_of
from everypath.grounds import Grounds
from everypath.leaps import rounds_left
from everypath.trails import trail_at_first, unknown


class Branch:
    """A trail as far as it goes by its sides, and the grounds over all unknowns that it has met."""

    def __init__(self, trail, grounds, steps):
        self.trail = trail
        self.grounds = grounds
        self.steps = steps
        grounds.add_unknowns(trail.ranges)

    def forks(self):
        """What comes of the sides that are let, in their order; none where no side is wanted."""
        return [Fork(self, side) for side in self.trail.lets] if self.trail.wants_side() else []

    def why_for(self, inputs):
        """Why it stops as a run with these inputs tells it."""
        why = self.trail.why
        return ("ends", value_of(why[1], by_unknowns(inputs))) if why[0] == "ends" else why


class Fork:
    """A branch that takes a side: its trail right behind that, and the grounds with the conditions of the side."""

    def __init__(self, branch, side):
        self.steps = branch.steps
        self.trail = branch.trail.copied()
        self.trail.turn(side)
        self.grounds = branch.grounds.copied()
        self.grounds.add_unknowns(self.trail.ranges)
        for condition in self.trail.conditions[len(branch.trail.conditions):]:
            self.grounds.add_condition(condition)
        self.many = len(self.trail.conditions) - len(branch.trail.conditions)

    def settle_side(self):
        """Has the grounds' inputs meet the side, too; if there are none, tells what found none.

        By the first condition of the side all others hold for just one number of rounds, which is told by the inputs.
        """
        first = len(self.grounds.trees) - self.many
        pursuit = self.grounds.meet_condition(first, first + 1)
        if pursuit is None and self.many > 1:
            numbers = by_unknowns(self.grounds.inputs)
            spares = [(value_of(spare, numbers), change) for spare, change in self.trail.spares]
            self.grounds.inputs[-1] = rounds_left(spares)
        return pursuit

    def gone_on(self):
        """The branch behind the side."""
        self.trail.go(self.steps)
        return Branch(self.trail, self.grounds, self.steps)


def by_unknowns(inputs):
    """The integers by the names of their unknowns."""
    return {unknown(at): n for at, n in enumerate(inputs)}


def branch_at_first(program, steps):
    """The branch from the first place on, ahead of all sides."""
    return Branch(trail_at_first(program, steps), Grounds([]), steps)
