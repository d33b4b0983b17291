"""Paths: the sides of runs, and what holds of all inputs that take given sides."""

from everypath.errors import BadSides
from everypath.kinds import are_sides
from everypath.plays import played_for
from everypath.programs import check_program
from everypath.runs import check_inputs, check_steps
from everypath.trails import trail_along


def path_of(program, inputs, steps):
    check_program(program)
    check_inputs(inputs)
    check_steps(steps)
    play = played_for(program, inputs, steps)
    return play.sides, play.why


def followed(program, sides, steps):
    trail = checked_trail(program, sides, steps)
    prints = [event[1] for event in trail.events if event[0] == "prints"]
    return trail.why, trail.ranges, trail.conditions, prints


def checked_trail(program, sides, steps):
    """The trail along these sides, behind the refusals of a program, sides and steps."""
    check_program(program)
    if not are_sides(sides):
        raise BadSides(sides)
    check_steps(steps)
    trail = trail_along(program, sides, steps)
    if trail is None:
        raise BadSides(sides)
    return trail
