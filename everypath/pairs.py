"""Two programs gone along sides of each, side by side, and how their traces go together."""

from everypath.grounds import Grounds
from everypath.trails import trail_at_first


class Pair:
    """The trails of both, the index up to which their traces are equal, and the grounds of the conditions of both.

    The conditions of the one stand ahead of those of the other; the unknowns are those asked for ahead of the index.
    word: what stands in a tree here: "cut", "end", "one", "other", "equal", or "parted" where no tree can stand.
    """

    def __init__(self, trails, index, grounds, steps):
        self.trails = trails
        self.traces = [trail.all_events() for trail in trails]
        self.index = index
        self.grounds = grounds
        self.steps = steps
        self.pass_equal()
        self.word = self.find_word()

    def pass_equal(self):
        """Goes behind all events that are equal."""
        one, other = self.traces
        while self.index < min(len(one), len(other)) and one[self.index] == other[self.index]:
            event = one[self.index]
            if event[0] == "asks":
                self.grounds.add_unknown(event[1], event[2])
            self.index += 1

    def find_word(self):
        lacking = [self.index >= len(trace) for trace in self.traces]
        whys = [trail.why[0] for trail, lacks in zip(self.trails, lacking) if lacks]
        if not whys:
            kinds = [trace[self.index][0] for trace in self.traces]
            return "equal" if kinds in (["prints", "prints"], ["ends", "ends"]) else "parted"
        if "going" in whys:
            return "cut"
        if "sides" not in whys:
            return "end"
        return "one" if lacking[0] else "other"

    def grounds_by(self, side):
        """The grounds with the condition of a side of the program that wants one, and its index among them."""
        at = 0 if self.word == "one" else 1
        grounds = self.grounds.copied()
        many = sum([len(trail.conditions) for trail in self.trails[:at + 1]])
        return grounds, grounds.put_condition(self.trails[at].condition_of(side), many)

    def sides_by(self, side):
        """The lists of sides of both behind this side of the program that wants one."""
        found = [list(trail.sides) for trail in self.trails]
        found[0 if self.word == "one" else 1].append(side)
        return tuple(found)

    def gone_by(self, side, grounds):
        """The pair behind this side."""
        at = 0 if self.word == "one" else 1
        trails = list(self.trails)
        trails[at] = trails[at].copied()
        trails[at].take_side(side, self.steps)
        return Pair(trails, self.index, grounds, self.steps)

    def grounds_less(self, at):
        """The grounds with the condition that the number here of the one, or other, is less than that of the second."""
        grounds = self.grounds.copied()
        numbers = [trace[self.index][1] for trace in self.traces]
        return grounds, grounds.add_condition(("lt", numbers[at], numbers[1 - at]))

    def gone_on(self):
        """The pair behind the event here."""
        return Pair(self.trails, self.index + 1, self.grounds.copied(), self.steps)

    def told_sides(self):
        one, other = self.trails
        return list(one.sides), list(other.sides)

    def steps_needed(self):
        """Within how many steps both have their event here."""
        moments = [[*trail.moments, trail.taken][self.index] for trail in self.trails]
        return max(moments) + 1


def pair_at_first(program, other, steps):
    return Pair([trail_at_first(program, steps), trail_at_first(other, steps)], 0, Grounds([]), steps)
