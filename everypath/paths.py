"""Paths: the sides of runs, and what holds of all inputs that take given sides."""

from everypath.errors import BadSides
from everypath.kinds import are_sides
from everypath.plainsums import plain_condition, plain_sum, written_sum
from everypath.plays import played_for
from everypath.programs import check_program
from everypath.runs import check_inputs, check_steps
from everypath.walks import Walk


class Following(Walk):
    """A frame of f and those above it, followed along sides without knowing any input; values are sums."""

    def __init__(self, program, f, sides):
        self.sides = sides
        self.gone = 0
        self.ranges = []
        self.conditions = []
        self.prints_told = []
        Walk.__init__(self, program, f)

    def first(self):
        return 0, []

    def worth(self, expression):
        return plain_sum(expression, self.frames[-1][2])

    def told(self, worth):
        return written_sum(worth)

    def side_of(self, condition):
        """The next of the sides, None if there is no more."""
        if self.gone == len(self.sides):
            return None
        side = self.sides[self.gone]
        self.gone += 1
        here = plain_condition(condition, self.frames[-1][2])
        self.conditions.append(here if side == 0 else ("not", here))
        return side

    def drawn_from(self, low, high):
        """The next unknown."""
        self.ranges.append((low, high))
        return 0, [(("name", unknown(len(self.ranges) - 1)), 1)]

    def prints(self, worth):
        self.prints_told.append(written_sum(worth))


def path_of(program, inputs, steps):
    check_program(program)
    check_inputs(inputs)
    check_steps(steps)
    play = played_for(program, inputs, steps)
    return play.sides, play.why


def followed(program, sides, steps):
    check_program(program)
    if not are_sides(sides):
        raise BadSides(sides)
    check_steps(steps)
    following = Following(program, "main", sides)
    following.go(steps)
    if following.gone < len(sides):
        raise BadSides(sides)
    return following.why, following.ranges, following.conditions, following.prints_told


def unknown(number):
    """What an unknown is called."""
    return f"u{number}"
