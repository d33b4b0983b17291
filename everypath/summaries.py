"""Functions summed up: what each list of sides of a function does, whatever it is called with."""

from everypath.errors import BadSides
from everypath.kinds import are_integers, are_sides
from everypath.plays import Play
from everypath.programs import check_function
from everypath.refusals import BadNumbers
from everypath.rowtrails import RowTrail, rows_behind
from everypath.runs import check_inputs, check_many, check_steps
from everypath.trails import gone_along


class FunctionPlay(Play):
    """A run of one function alone."""

    def __init__(self, program, f, numbers, inputs):
        Play.__init__(self, program, inputs)
        frame = self.frame(f)
        frame[2].update(dict(list(zip(program.params[f], numbers))))
        self.frames = [frame]


def followed_from(program, f, sides, steps):
    check_function(program, f)
    if not are_sides(sides):
        raise BadSides(sides)
    check_steps(steps)
    trail = RowTrail(program, f)
    trail.go(steps)
    if not gone_along(trail, sides, steps):
        raise BadSides(sides)
    return trail.why, trail.taken, trail.met


def summary(program, f, steps, many):
    check_summary(program, f, steps, many)
    return summed_up(program, f, steps, many)


def row_met(program, f, numbers, inputs, steps):
    check_function(program, f)
    if not are_integers(numbers) or len(numbers) != len(program.params[f]):
        raise BadNumbers(numbers)
    check_inputs(inputs)
    check_steps(steps)
    play = FunctionPlay(program, f, numbers, inputs)
    play.go(steps)
    if play.why[0] == "asks":
        return None
    trail = RowTrail(program, f)
    trail.go(steps)
    gone_along(trail, play.sides, steps)
    return trail.told_row()


def check_summary(program, f, steps, many):
    """The refusals of a function, a number of steps and one of rows."""
    check_function(program, f)
    check_steps(steps)
    check_many(many)


def summed_up(program, f, steps, many):
    """The rows of a function, None if there are more than many."""
    return rows_behind(RowTrail(program, f), steps, many)
