"""Walks: going along the edges of a program step by step, whatever its values are.

What differs is left to classes beneath: worth(expression) of the running frame, told(worth) for how that is told,
first() for what names are at first, side_of(condition) for the side that is taken, and drawn_from(low, high) for an
integer that is asked for; the last two tell None where there is none.
"""


class Walk:
    """Frames [f, place, values], how many steps are taken, and why it stopped (None while it goes).

    events: ("asks", low, high) and ("prints", worth) that were met, in their order, moments: at which moments.
    """

    def __init__(self, program, f):
        self.program = program
        self.frames = [self.frame(f)]
        self.taken = 0
        self.why = None
        self.events = []
        self.moments = []

    def frame(self, f):
        return [f, 0, {name: self.first() for name in self.program.names[f]}]

    def go(self, steps):
        """Takes steps until it stops or so many are taken."""
        while self.why is None and self.taken < steps:
            self.move()
        if self.why is None:
            self.why = ("going",)

    def move(self):
        """Goes on by one; what that is may be told otherwise beneath."""
        self.step()

    def step(self):
        """Takes the next step, or tells in why that there is none."""
        number = self.edge_taken()
        if number is None:
            self.why = ("sides",)
            return
        f = self.frames[-1][0]
        edge = self.program.edges[f][number]
        goes_on = self.act(edge[2], f, number)
        if goes_on or self.why is not None and self.why[0] == "ends":
            self.touch(f, number)
        if goes_on:
            self.taken += 1
            if edge[2][0] not in ("call", "return"):
                self.frames[-1][1] = edge[1]

    def touch(self, f, number):
        """Is told each edge that is taken, and that by which it ends; beneath they may be noted."""

    def edge_taken(self):
        """The number of the edge that is taken from here, None if a side is wanted and there is none."""
        f, place, _ = self.frames[-1]
        numbers = self.program.starts[f][place]
        if len(numbers) == 1:
            return numbers[0]
        side = self.side_of(self.program.edges[f][numbers[0]][2][1])
        return None if side is None else numbers[side]

    def act(self, action, f, number):
        """Does what the action of an edge says; False if it stops there."""
        word = action[0]
        values = self.frames[-1][2]
        if word == "set":
            values[action[1]] = self.worth(action[2])
        elif word == "any":
            self.note(("asks", action[2], action[3]))
            worth = self.drawn_from(action[2], action[3])
            if worth is None:
                self.why = ("asks", f, number)
                return False
            values[action[1]] = worth
        elif word == "call":
            self.call(action)
        elif word == "return":
            return self.come_back(self.worth(action[1]))
        elif word in ("assert", "assume"):
            return self.tries(action, f, number)
        elif word == "print":
            self.note(("prints", self.told(self.worth(action[1]))))
        return True

    def note(self, event):
        self.events.append(event)
        self.moments.append(self.taken)

    def all_events(self):
        """The events with the one by which it stopped, if it did."""
        if self.why[0] == "ends":
            return [*self.events, self.why]
        if self.why[0] in ("breaks", "barred"):
            return [*self.events, (self.why[0],)]
        return list(self.events)

    def call(self, action):
        frame = self.frame(action[2])
        for param, expression in zip(self.program.params[action[2]], action[3]):
            frame[2][param] = self.worth(expression)
        self.frames.append(frame)

    def come_back(self, worth):
        """Takes the running frame away, the value being set in the one below; False if it was the last one."""
        if len(self.frames) == 1:
            self.why = ("ends", self.told(worth))
            return False
        self.frames.pop()
        f, place, values = self.frames[-1]
        edge = self.program.edges[f][self.program.starts[f][place][0]]
        values[edge[2][1]] = worth
        self.frames[-1][1] = edge[1]
        return True

    def tries(self, action, f, number):
        """Whether an assert or assume lets the run go on."""
        side = self.side_of(action[1])
        if side is None:
            self.why = ("sides",)
        elif side == 1:
            self.why = ("breaks" if action[0] == "assert" else "barred", f, number)
        return side == 0
