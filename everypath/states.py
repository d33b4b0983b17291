"""States of programs: what they are, their steps, and the layers of those that runs meet."""

from everypath.errors import BadState
from everypath.kinds import is_integer, is_list, is_list_of
from everypath.plays import Play
from everypath.programs import is_function_of
from everypath.zones import are_values


class Turn(Play):
    """A run that begins at a state."""

    def __init__(self, program, state, inputs):
        Play.__init__(self, program, inputs)
        self.frames = [[f, place, {name: values[name] for name in values}] for f, place, values in state]


def is_state(program, thing):
    """Whether it is a state of this right program."""
    if not is_list(thing) or len(thing) == 0 or not all([is_frame(program, frame) for frame in thing]):
        return False
    if thing[0][0] != "main" or thing[-1][1] == 1:
        return False
    return all([goes_to(program, thing[at]) == thing[at + 1][0] for at in range(len(thing) - 1)])


def is_frame(program, thing):
    """Whether it is a frame at a place of a function, with values of its names."""
    if not is_list_of(thing, 3) or not is_function_of(program, thing[0]) or not is_integer(thing[1]):
        return False
    f, place, values = thing
    return 0 <= place < program.places[f] and are_values(values, program.names[f])


def goes_to(program, frame):
    """The function to which a call goes from where a frame is, None if none does."""
    action = action_at(program, frame)
    return None if action is None or action[0] != "call" else action[2]


def action_at(program, frame):
    """The action of the first edge that starts where a frame is, None if none does."""
    number = number_at(program, frame)
    return None if number is None else program.edges[frame[0]][number][2]


def number_at(program, frame):
    """The number of the first edge that starts where a frame is, None if none does."""
    numbers = program.starts[frame[0]][frame[1]]
    return numbers[0] if numbers else None


def check_state(program, state):
    if not is_state(program, state):
        raise BadState(state)


def key_of(program, state):
    """What tells a state from all others, and can be the key of a dict."""
    return tuple([(f, place, tuple([values[name] for name in program.names[f]])) for f, place, values in state])


def told_state(state):
    """It as it is told, all of it new."""
    return [(f, place, {name: values[name] for name in values}) for f, place, values in state]


def width_of(program, state):
    """How many inputs there are for its step, 1 if it takes none."""
    action = action_at(program, state[-1])
    return action[3] - action[2] + 1 if action[0] == "any" else 1


def inputs_at(program, state):
    """The lists of inputs with which a step can be taken, in their order."""
    action = action_at(program, state[-1])
    return [[n] for n in range(action[2], action[3] + 1)] if action[0] == "any" else [[]]


def next_by(program, state, inputs):
    """The state to which a step leads, None if there is none, and why."""
    turn = Turn(program, state, inputs)
    turn.step()
    return (turn.frames, None) if turn.why is None else (None, turn.why)


class Spread:
    """The layers so far, the way of each state in them by its key, and why no more are told (None while more come)."""

    def __init__(self, program, many, width):
        self.program = program
        self.many = many
        self.width = width
        first = first_state(program)
        self.layers = [[first]]
        self.ways = {key_of(program, first): []}
        self.why = None

    def go_through(self):
        while self.why is None:
            self.spread()

    def spread(self):
        """Tells one layer more, or why none is told."""
        wide = [(state[-1][0], number_at(self.program, state[-1])) for state in self.layers[-1]
                if width_of(self.program, state) > self.width]
        if wide:
            f, number = min(wide)
            self.why = ("wide", f, number)
            return
        layer, ways = self.next_layer()
        if not layer:
            self.why = ("closed",)
        elif len(self.ways) + len(layer) > self.many:
            self.why = ("many",)
        else:
            self.layers.append(layer)
            self.ways.update(ways)

    def next_layer(self):
        """The states of the next layer and their ways, as far as they may be told."""
        layer, ways = [], {}
        for state in self.layers[-1]:
            way = self.ways[key_of(self.program, state)]
            for inputs in inputs_at(self.program, state):
                if len(self.ways) + len(layer) > self.many:
                    return layer, ways
                found, _ = next_by(self.program, state, inputs)
                key = None if found is None else key_of(self.program, found)
                if key is not None and key not in self.ways and key not in ways:
                    ways[key] = [*way, *inputs]
                    layer.append(found)
        return layer, ways

    def told_layers(self):
        return [[told_state(state) for state in layer] for layer in self.layers]


def first_state(program):
    """The state with which the run of the program begins."""
    return Play(program, []).told_state()


def spread_of(program, many, width):
    """All layers that are told."""
    spread = Spread(program, many, width)
    spread.go_through()
    return spread
