"""Layers: all states of runs, by the least number of steps that lead to them, and lists of states that are closed."""

from everypath.errors import BadAssertion
from everypath.evaluating import holds, value_of
from everypath.graphs import assertions, is_assertion
from everypath.kinds import is_integer, is_list
from everypath.programs import check_program
from everypath.refusals import BadStates, BadWidth
from everypath.runs import check_many
from everypath.states import (action_at, check_state, first_state, inputs_at, is_state, key_of, next_by, number_at,
                              spread_of, told_state, width_of)


def next_states(program, state, width):
    check_program(program)
    check_state(program, state)
    check_width(width)
    if width_of(program, state) > width:
        return None
    return [told_state(found) for found in next_of(program, state)]


def layers(program, many, width):
    check_program(program)
    check_many(many)
    check_width(width)
    spread = spread_of(program, many, width)
    return spread.why, spread.told_layers()


def way_to(program, state, many, width):
    check_program(program)
    check_state(program, state)
    check_many(many)
    check_width(width)
    way = spread_of(program, many, width).ways.get(key_of(program, state))
    return None if way is None else list(way)


def first_break(program, assertion, many, width):
    check_program(program)
    if not is_assertion(program, assertion):
        raise BadAssertion(assertion)
    check_many(many)
    check_width(width)
    spread = spread_of(program, many, width)
    for layer in spread.layers:
        for state in layer:
            if breaks(program, tuple(assertion), state):
                return list(spread.ways[key_of(program, state)])
    return None


def open_at(program, states, width):
    check_program(program)
    if not is_list(states):
        raise BadStates(states)
    check_width(width)
    for index, state in enumerate(states):
        if not is_state(program, state):
            return "state", index
    keys = {key_of(program, state): True for state in states}
    if key_of(program, first_state(program)) not in keys:
        return ("first",)
    for index, state in enumerate(states):
        if width_of(program, state) > width:
            return "wide", index
        if not all([key_of(program, found) in keys for found in next_of(program, state)]):
            return "next", index
    return None


def broken_in(program, states):
    check_program(program)
    check_states(program, states)
    return [assertion for assertion in assertions(program)
            if any([breaks(program, assertion, state) for state in states])]


def ends_in(program, states):
    check_program(program)
    check_states(program, states)
    values = set()
    for state in states:
        action = action_at(program, state[-1])
        if len(state) == 1 and action[0] == "return":
            values.add(value_of(action[1], state[0][2]))
    return sorted(values)


def breaks(program, assertion, state):
    """Whether a state stands at an assertion that does not hold."""
    f, _, values = state[-1]
    if (f, number_at(program, state[-1])) != assertion:
        return False
    return not holds(program.edges[f][assertion[1]][2][1], values)


def next_of(program, state):
    """The states to which one step leads, by ascending inputs."""
    found = [next_by(program, state, inputs)[0] for inputs in inputs_at(program, state)]
    return [following for following in found if following is not None]


def check_states(program, states):
    if not is_list(states) or not all([is_state(program, state) for state in states]):
        raise BadStates(states)


def check_width(width):
    if not is_integer(width) or width < 1:
        raise BadWidth(width)
