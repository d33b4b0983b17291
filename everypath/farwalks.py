"""Sides followed by leaps: what holds of all inputs, and of the rounds of even loops, that take them."""

from everypath.errors import BadSides
from everypath.evenloops import even_loops
from everypath.folds import added
from everypath.forms import strip_over
from everypath.kinds import are_integers
from everypath.leaps import check_leaps, rounds_left
from everypath.plainsums import plain_condition, plain_sum, written_sum
from everypath.programs import check_program
from everypath.stripmath import reduce_strip
from everypath.trails import Trail, gone_along, unknown


class FarTrail(Trail):
    """A trail by leaps.

    rounds: (number, how many steps a round is) for each unknown that is a number of rounds; spares: for the rounds
    that were gone last, what each fact that runs out had to spare, and what a round takes of that.
    """

    def __init__(self, program, evens):
        self.evens = evens
        self.rounds = []
        self.spares = []
        Trail.__init__(self, program)

    def made_anew(self):
        trail = FarTrail(self.program, self.evens)
        trail.rounds = list(self.rounds)
        trail.spares = list(self.spares)
        return trail

    def move(self):
        f, place, _ = self.frames[-1]
        if (f, place) in self.evens:
            self.leap(self.evens[(f, place)])
        else:
            self.step()

    def leap(self, loop):
        """Goes all rounds of a loop and leaves it, or goes on without end, as the next side tells."""
        side = self.next_side(loop.condition, (1, 2) if loop.is_flat() else (0, 1))
        if side is None:
            self.why = ("sides",)
            return
        self.conditions.append(self.condition_of(side))
        frame = self.frames[-1]
        if side == 2:
            self.why = ("endless", frame[0], loop.head)
            return
        if side == 0:
            frame[2] = self.go_rounds(loop, frame[2])
        frame[1] = loop.behind
        self.taken += 1

    def go_rounds(self, loop, values):
        """What the names are behind rounds that leave the loop, how many being the next unknown."""
        sums = [(plain_sum(("sub", f, e), values), change) for e, f, change in loop.facts if change > 0]
        self.spares = [(written_sum(spare), change) for spare, change in sums]
        strips = {unknown(at): reduce_strip(low, high, 1, 0) for at, (low, high) in enumerate(self.ranges)}
        most = rounds_left([(strip_over(spare, strips)[1], change) for spare, change in self.spares])
        self.rounds.append((len(self.ranges), loop.round_steps))
        times = self.new_unknown(1, max(1, most))
        last = {name: added(values[name], (times[0] - 1, times[1]), loop.gains[name]) for name in loop.gains}
        behind = {name: added(values[name], times, loop.gains[name]) for name in loop.gains}
        self.conditions.append(plain_condition(loop.condition, last))
        self.conditions.append(("not", plain_condition(loop.condition, behind)))
        return behind


def far_trail_at_first(program, leaps):
    """The trail by leaps from the first place on, ahead of all sides."""
    trail = FarTrail(program, even_loops(program))
    trail.go(leaps)
    return trail


def far_followed(program, sides, leaps):
    check_program(program)
    if not are_integers(sides) or not all([side in (0, 1, 2) for side in sides]):
        raise BadSides(sides)
    check_leaps(leaps)
    trail = far_trail_at_first(program, leaps)
    if not gone_along(trail, sides, leaps):
        raise BadSides(sides)
    return trail.why, trail.ranges, trail.conditions, trail.values_printed()
