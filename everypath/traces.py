"""Traces: what a run asks for, prints and comes to, and what it does along sides."""

from everypath.errors import BadOther
from everypath.kinds import are_integers
from everypath.paths import checked_trail
from everypath.plays import played_for
from everypath.programs import Program, check_program
from everypath.runs import check_inputs, check_steps


def trace(program, inputs, steps):
    check_program(program)
    check_inputs(inputs)
    check_steps(steps)
    return played_for(program, inputs, steps).all_events()


def is_parting(program, other, inputs, steps):
    check_program(program)
    check_other(other)
    check_steps(steps)
    if not are_integers(inputs):
        return False
    one, two = [played_for(either, inputs, steps).all_events() for either in (program, other)]
    return any([event != second for event, second in zip(one, two)])


def traced(program, sides, steps):
    trail = checked_trail(program, sides, steps)
    return trail.all_events(), trail.why


def check_other(other):
    """The refusal of what is no second program."""
    if not isinstance(other, Program):
        raise BadOther(other)
