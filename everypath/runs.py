"""Runs with given inputs: their states, what they print, whether they break an assertion."""

from everypath.errors import BadAssertion, BadInputs, BadSteps
from everypath.graphs import is_assertion
from everypath.kinds import are_integers, is_integer, is_number
from everypath.plays import Play, played_for
from everypath.programs import check_program
from everypath.refusals import BadMany


def played(program, inputs, steps):
    check_program(program)
    check_inputs(inputs)
    check_steps(steps)
    play = Play(program, inputs)
    states = [play.told_state()]
    while play.why is None and play.taken < steps:
        play.step()
        if play.why is None:
            states.append(play.told_state())
    return (("going",) if play.why is None else play.why), states


def printed(program, inputs, steps):
    check_program(program)
    check_inputs(inputs)
    check_steps(steps)
    return played_for(program, inputs, steps).told_prints()


def breaking(program, assertion, inputs, steps):
    check_program(program)
    if not is_assertion(program, assertion):
        raise BadAssertion(assertion)
    check_inputs(inputs)
    check_steps(steps)
    return played_for(program, inputs, steps).why == ("breaks", assertion[0], assertion[1])


def check_inputs(inputs):
    if not are_integers(inputs):
        raise BadInputs(inputs)


def check_steps(steps):
    if not is_number(steps):
        raise BadSteps(steps)


def check_many(many):
    if not is_integer(many) or many < 1:
        raise BadMany(many)
