"""Trails: walks along sides that know no input; values are sums over unknowns."""

from everypath.plainsums import plain_condition, plain_sum, written_sum
from everypath.walks import Walk


class Trail(Walk):
    """Goes on where another side comes: the ranges of the unknowns, and the conditions of the sides, as met so far.

    Where a side is wanted, asked is the condition by which it is taken, plain, and lets are the sides that are let.
    """

    def __init__(self, program):
        self.sides = []
        self.gone = 0
        self.ranges = []
        self.conditions = []
        self.asked = None
        self.lets = (0, 1)
        Walk.__init__(self, program, "main")

    def made_anew(self):
        return Trail(self.program)

    def copied(self):
        trail = self.made_anew()
        trail.sides = list(self.sides)
        trail.gone = self.gone
        trail.ranges = list(self.ranges)
        trail.conditions = list(self.conditions)
        trail.asked = self.asked
        trail.lets = self.lets
        trail.frames = [[f, place, {name: values[name] for name in values}] for f, place, values in self.frames]
        trail.taken = self.taken
        trail.why = self.why
        trail.events = list(self.events)
        trail.moments = list(self.moments)
        return trail

    def values_printed(self):
        return [event[1] for event in self.events if event[0] == "prints"]

    def wants_side(self):
        return self.why == ("sides",)

    def turn(self, side):
        """Takes this side, and goes no further."""
        self.sides.append(side)
        self.why = None
        self.move()

    def take_side(self, side, steps):
        """Goes on by this side as far as it gets without another one, or so many steps are taken in all."""
        self.turn(side)
        self.go(steps)

    def first(self):
        return 0, []

    def worth(self, expression):
        return plain_sum(expression, self.frames[-1][2])

    def told(self, worth):
        return written_sum(worth)

    def side_of(self, condition):
        """The side that is taken next, with its condition put behind the others; None if it is not told yet."""
        side = self.next_side(condition, (0, 1))
        if side is not None:
            self.meet_condition_of(side)
        return side

    def meet_condition_of(self, side):
        """Puts the condition of a side that is taken behind the others."""
        self.conditions.append(self.condition_of(side))

    def next_side(self, condition, lets):
        """The side that is taken next, of those that are let; None if it is not told yet."""
        if self.gone == len(self.sides):
            self.asked = plain_condition(condition, self.frames[-1][2])
            self.lets = lets
            return None
        self.gone += 1
        return self.sides[self.gone - 1]

    def condition_of(self, side):
        """The condition that tells of a side that is wanted whether it is taken."""
        return ("not", self.asked) if side == 1 else self.asked

    def drawn_from(self, low, high):
        return self.new_unknown(low, high)

    def new_unknown(self, low, high):
        """The next unknown, from low to high."""
        self.ranges.append((low, high))
        return 0, [(("name", unknown(len(self.ranges) - 1)), 1)]


def trail_at_first(program, steps):
    """The trail from the first place on, ahead of all sides."""
    trail = Trail(program)
    trail.go(steps)
    return trail


def gone_along(trail, sides, steps):
    """Whether the trail goes on along all these sides: they are let, none is behind a stop or the last step."""
    for side in sides:
        if not trail.wants_side() or side not in trail.lets:
            return False
        trail.take_side(side, steps)
    return True


def unknown(number):
    """What an unknown is called."""
    return f"u{number}"
