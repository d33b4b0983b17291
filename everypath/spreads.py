"""Spreads: layers of states, made one behind another from the first state of the run on."""

from everypath.plays import Play
from everypath.states import inputs_at, key_of, next_by, number_at, told_state, width_of


class Spread:
    """The layers so far, the way of each state in them by its key, and why no more are told (None while more come)."""

    def __init__(self, program, many, width):
        self.program = program
        self.many = many
        self.width = width
        first = first_state(program)
        self.layers = [[first]]
        self.ways = {key_of(program, first): []}
        self.why = None

    def go_through(self):
        while self.why is None:
            self.spread()

    def spread(self):
        """Tells one layer more, or why none is told."""
        wide = [(state[-1][0], number_at(self.program, state[-1])) for state in self.layers[-1]
                if width_of(self.program, state) > self.width]
        if wide:
            f, number = min(wide)
            self.why = ("wide", f, number)
            return
        layer, ways = self.next_layer()
        if not layer:
            self.why = ("closed",)
        elif len(self.ways) + len(layer) > self.many:
            self.why = ("many",)
        else:
            self.layers.append(layer)
            self.ways.update(ways)

    def next_layer(self):
        """The states of the next layer and their ways, as far as they may be told."""
        layer, ways = [], {}
        for state in self.layers[-1]:
            way = self.ways[key_of(self.program, state)]
            for inputs in inputs_at(self.program, state):
                if len(self.ways) + len(layer) > self.many:
                    return layer, ways
                found, _ = next_by(self.program, state, inputs)
                key = None if found is None else key_of(self.program, found)
                if key is not None and key not in self.ways and key not in ways:
                    ways[key] = [*way, *inputs]
                    layer.append(found)
        return layer, ways

    def told_layers(self):
        return [[told_state(state) for state in layer] for layer in self.layers]


def first_state(program):
    """The state with which the run of the program begins."""
    return Play(program, []).told_state()


def spread_of(program, many, width):
    """All layers that are told."""
    spread = Spread(program, many, width)
    spread.go_through()
    return spread
