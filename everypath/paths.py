"""Paths: the sides of runs, and what holds of all inputs that take given sides."""

from everypath.errors import BadSides
from everypath.kinds import are_sides
from everypath.plays import played_for
from everypath.programs import check_program
from everypath.runs import check_inputs, check_steps
from everypath.trails import gone_along, trail_at_first


def path_of(program, inputs, steps):
    check_program(program)
    check_inputs(inputs)
    check_steps(steps)
    play = played_for(program, inputs, steps)
    return play.sides, play.why


def followed(program, sides, steps):
    trail = checked_trail(program, sides, steps)
    return trail.why, trail.ranges, trail.conditions, trail.values_printed()


def checked_trail(program, sides, steps):
    """The trail along these sides, behind the refusals of a program, sides and steps."""
    check_program(program)
    if not are_sides(sides):
        raise BadSides(sides)
    check_steps(steps)
    trail = trail_at_first(program, steps)
    if not gone_along(trail, sides, steps):
        raise BadSides(sides)
    return trail
