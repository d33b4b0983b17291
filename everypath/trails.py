"""Trails: walks along sides that know no input; values are sums over unknowns."""

from everypath.plainsums import plain_condition, plain_sum, written_sum
from everypath.walks import Walk


class Trail(Walk):
    """Goes on where another side comes: the ranges of the unknowns, and the condition of each side, as met so far.

    asked: the condition by which the next side is taken, plain, where one is wanted.
    """

    def __init__(self, program):
        self.sides = []
        self.ranges = []
        self.conditions = []
        self.asked = None
        Walk.__init__(self, program, "main")

    def copied(self):
        trail = Trail(self.program)
        trail.sides = list(self.sides)
        trail.ranges = list(self.ranges)
        trail.conditions = list(self.conditions)
        trail.asked = self.asked
        trail.frames = [[f, place, {name: values[name] for name in values}] for f, place, values in self.frames]
        trail.taken = self.taken
        trail.why = self.why
        trail.events = list(self.events)
        trail.moments = list(self.moments)
        return trail

    def take(self, side, steps):
        """Goes on by this side as far as it gets without another one, or so many steps are taken in all."""
        self.sides.append(side)
        self.why = None
        self.go(steps)

    def first(self):
        return 0, []

    def worth(self, expression):
        return plain_sum(expression, self.frames[-1][2])

    def told(self, worth):
        return written_sum(worth)

    def side_of(self, condition):
        """The side that is taken next, None if it is not told yet."""
        if len(self.conditions) == len(self.sides):
            self.asked = plain_condition(condition, self.frames[-1][2])
            return None
        self.conditions.append(self.condition_of(self.sides[-1]))
        return self.sides[-1]

    def condition_of(self, side):
        """The condition with which the side is taken that is wanted."""
        return self.asked if side == 0 else ("not", self.asked)

    def drawn_from(self, low, high):
        """The next unknown."""
        self.ranges.append((low, high))
        return 0, [(("name", unknown(len(self.ranges) - 1)), 1)]


def trail_at_first(program, steps):
    """The trail from the first place on, ahead of all sides."""
    trail = Trail(program)
    trail.go(steps)
    return trail


def trail_along(program, sides, steps):
    """The trail along these sides; None if it goes on behind a stop or the last step."""
    trail = trail_at_first(program, steps)
    for side in sides:
        if trail.why != ("sides",):
            return None
        trail.take(side, steps)
    return trail


def unknown(number):
    """What an unknown is called."""
    return f"u{number}"
