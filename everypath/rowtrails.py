"""Trails of one function alone, which note what they meet, and the rows that come of them."""

from everypath.plainsums import plain_sum
from everypath.rows import cut_right_row, inputs_of, may_hold, put_right_row, row_may_hold, unlike_rows
from everypath.trails import Trail


class RowTrail(Trail):
    """Begins in a frame of f whose params are unknowns under their own names; met: the events of its row."""

    def __init__(self, program, f):
        self.f = f
        self.met = []
        Trail.__init__(self, program)
        frame = self.frame(f)
        frame[2].update({param: (0, [(("name", param), 1)]) for param in program.params[f]})
        self.frames = [frame]

    def made_anew(self):
        trail = RowTrail(self.program, self.f)
        trail.met = list(self.met)
        return trail

    def note(self, event):
        word = "input" if event[0] == "asks" else "print"
        self.met.append((word, self.taken, *event[1:]))
        self.events.append(event)
        self.moments.append(self.taken)

    def meet_condition_of(self, side):
        self.conditions.append(self.condition_of(side))
        self.met.append(("side", self.taken, side, self.conditions[-1]))

    def is_parted(self):
        """Whether it goes on in more than one way."""
        return self.wants_side()

    def ways_on(self, steps):
        """What comes of it in all these ways."""
        return self.by_sides()

    def by_sides(self):
        """What comes of it by the sides that may hold."""
        found = []
        for side in (0, 1):
            if may_hold(self.condition_of(side)):
                found.append(self.copied())
                found[-1].turn(side)
        return found

    def told_row(self):
        return self.met, self.taken, self.why


class CallerTrail(RowTrail):
    """Never goes into a function that is called: rows of it are put in; why is ("calls",) ahead of a call.

    rows: for each function that f calls its rows, all of them tuples.
    """

    def __init__(self, program, f, rows):
        self.rows = rows
        RowTrail.__init__(self, program, f)

    def made_anew(self):
        trail = CallerTrail(self.program, self.f, self.rows)
        trail.met = list(self.met)
        return trail

    def move(self):
        if self.edge_here()[2][0] == "call":
            self.why = ("calls",)
        else:
            self.step()

    def edge_here(self):
        """The first edge that starts at the place to which it has come."""
        f, place, _ = self.frames[-1]
        return self.program.edges[f][self.program.starts[f][place][0]]

    def is_parted(self):
        return self.wants_side() or self.why == ("calls",)

    def ways_on(self, steps):
        """What comes of it by the sides that may hold, or by the rows of the function that is called."""
        if self.wants_side():
            return self.by_sides()
        _, _, g, expressions = self.edge_here()[2]
        sums = {}
        for param, expression in zip(self.program.params[g], expressions):
            sums[param] = self.worth(expression)
        ahead = self.taken + 1
        rows = [put_right_row(cut_right_row(row, steps - ahead), sums, len(self.ranges), ahead) for row in self.rows[g]]
        rows = [row for row in rows if row_may_hold(row)]
        return [self.behind_row(row) for row in unlike_rows(rows)]

    def behind_row(self, row):
        """What comes of it by a row that is put in."""
        events, taken, why = row
        trail = self.copied()
        trail.met.extend(events)
        trail.ranges.extend(inputs_of(row))
        trail.taken = taken
        trail.why = why
        if why[0] == "ends":
            edge = trail.edge_here()
            frame = trail.frames[-1]
            frame[2][edge[2][1]] = plain_sum(why[1], {})
            frame[1] = edge[1]
            trail.why = None
            trail.taken += 1
        return trail


def rows_behind(trail, steps, many):
    """The rows of all that comes of a trail, in the order in which it goes on; None if there are more than many."""
    rows = []
    waiting = [trail]
    while waiting and len(rows) <= many:
        part = waiting.pop()
        part.go(steps)
        if part.is_parted():
            waiting.extend(part.ways_on(steps)[::-1])
        else:
            rows.append(part.told_row())
    return None if len(rows) > many else rows
