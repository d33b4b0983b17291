"""Branches: trails that are parted where a side is wanted, each with the grounds of its conditions."""

from everypath.evaluating import value_of
from everypath.grounds import Grounds
from everypath.trails import trail_at_first, unknown


class Branch:
    """A trail as far as it goes by its sides, and the grounds over all unknowns that it has met."""

    def __init__(self, trail, grounds, steps):
        self.trail = trail
        self.grounds = grounds
        self.steps = steps
        for low, high in trail.ranges[len(grounds.inputs):]:
            grounds.add_unknown(low, high)

    def wants_side(self):
        return self.trail.why == ("sides",)

    def grounds_by(self, side):
        """The grounds with the condition of a side that is wanted, ahead of all that comes behind it."""
        grounds = self.grounds.copied()
        grounds.add_condition(self.trail.condition_of(side))
        return grounds

    def gone_by(self, side, grounds):
        """The branch behind this side, with these grounds."""
        trail = self.trail.copied()
        trail.take(side, self.steps)
        return Branch(trail, grounds, self.steps)

    def why_for(self, inputs):
        """Why it stops as a run with these inputs tells it."""
        why = self.trail.why
        if why[0] != "ends":
            return why
        return ("ends", value_of(why[1], {unknown(at): n for at, n in enumerate(inputs)}))


def branch_at_first(program, steps):
    """The branch from the first place on, ahead of all sides."""
    return Branch(trail_at_first(program, steps), Grounds([]), steps)
