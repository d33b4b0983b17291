"""Sides followed by leaps: what holds of all inputs, and of the rounds of even loops, that take them."""

from everypath.errors import BadSides
from everypath.fartrails import far_trail_at_first
from everypath.kinds import are_integers
from everypath.leaps import check_leaps
from everypath.programs import check_program
from everypath.trails import gone_along


def far_followed(program, sides, leaps):
    check_program(program)
    if not are_integers(sides) or not all([side in (0, 1, 2) for side in sides]):
        raise BadSides(sides)
    check_leaps(leaps)
    trail = far_trail_at_first(program, leaps)
    if not gone_along(trail, sides, leaps):
        raise BadSides(sides)
    return trail.why, trail.ranges, trail.conditions, trail.values_printed()
