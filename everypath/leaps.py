"""Runs that go by leaps: all rounds of an even loop at once."""

from everypath.evaluating import holds, value_of
from everypath.evenloops import even_loops
from everypath.kinds import is_number
from everypath.plays import Play
from everypath.programs import check_program
from everypath.refusals import BadLeaps
from everypath.runs import check_inputs


class FarPlay(Play):
    """A run of main by leaps; rounds: how many were gone at each side 0 of an even loop."""

    def __init__(self, program, inputs):
        Play.__init__(self, program, inputs)
        self.evens = even_loops(program)
        self.rounds = []

    def move(self):
        f, place, _ = self.frames[-1]
        if (f, place) in self.evens:
            self.leap(self.evens[(f, place)])
        else:
            self.step()

    def leap(self, loop):
        """Goes all rounds of a loop, and leaves it."""
        frame = self.frames[-1]
        values = frame[2]
        if not holds(loop.condition, values):
            self.sides.append(1)
        elif loop.is_flat():
            self.sides.append(2)
            self.why = ("endless", frame[0], loop.head)
            return
        else:
            self.sides.append(0)
            self.rounds.append(rounds_left([(value_of(("sub", f, e), values), change) for e, f, change in loop.facts]))
            for name in loop.gains:
                values[name] += self.rounds[-1] * loop.gains[name]
        frame[1] = loop.behind
        self.taken += 1


def far_path_of(program, inputs, leaps):
    check_program(program)
    check_inputs(inputs)
    check_leaps(leaps)
    play = FarPlay(program, inputs)
    play.go(leaps)
    return play.sides, play.why, play.rounds


def check_leaps(leaps):
    if not is_number(leaps):
        raise BadLeaps(leaps)


def rounds_left(spares):
    """How many rounds are gone, of pairs (how much a fact has to spare, what a round takes of that)."""
    return min([spare // change + 1 for spare, change in spares if change > 0])
