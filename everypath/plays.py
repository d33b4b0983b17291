"""Runs with given inputs, gone step by step."""

from everypath.evaluating import holds, value_of
from everypath.walks import Walk


class Play(Walk):
    """A run of main: its sides, how many inputs it took."""

    def __init__(self, program, inputs):
        self.inputs = inputs
        self.drawn = 0
        self.sides = []
        Walk.__init__(self, program, "main")

    def first(self):
        return 0

    def worth(self, expression):
        return value_of(expression, self.frames[-1][2])

    def told(self, worth):
        return worth

    def side_of(self, condition):
        side = 0 if holds(condition, self.frames[-1][2]) else 1
        self.sides.append(side)
        return side

    def drawn_from(self, low, high):
        """The next input, None if there is none or it is out of the range."""
        if self.drawn == len(self.inputs) or not low <= self.inputs[self.drawn] <= high:
            return None
        self.drawn += 1
        return self.inputs[self.drawn - 1]

    def told_prints(self):
        return [(moment, event[1]) for moment, event in zip(self.moments, self.events) if event[0] == "prints"]

    def told_state(self):
        """The state as it is told, all of it new."""
        return [(f, place, {name: values[name] for name in values}) for f, place, values in self.frames]


def played_for(program, inputs, steps):
    """The run with these inputs, gone so many steps."""
    play = Play(program, inputs)
    play.go(steps)
    return play
