"""Two programs compared for all inputs: inputs that part them, or a tree that shows there are none."""

from everypath.grounds import refutation_by
from everypath.pairs import pair_at_first
from everypath.programs import check_program
from everypath.runs import check_many, check_steps
from everypath.traces import check_other


class Node:
    """What stands in the tree: its word, its pair, and the pursuits that found no inputs."""

    def __init__(self, word, pair, pursuits):
        self.word = word
        self.pair = pair
        self.pursuits = pursuits


class Meeting:
    """Goes on with pairs, as long as there are not more than many ends.

    nodes: each ahead of what is within it; parted: (pair, inputs) for each end at which inputs part the two.
    """

    def __init__(self, program, other, steps, many):
        self.many = many
        self.ends = 0
        self.nodes = []
        self.parted = []
        self.sides_to_go = []
        self.visit(pair_at_first(program, other, steps))

    def go_through(self):
        while self.sides_to_go and not self.are_too_many():
            pair, side = self.sides_to_go.pop()
            grounds, index = pair.grounds_by(side)
            pursuit = grounds.meet_condition(index, len(grounds.trees))
            if pursuit is None:
                self.visit(pair.gone_by(side, grounds))
            else:
                self.nodes.append(Node("never", pair, [pursuit]))

    def visit(self, pair):
        """Has a pair, and those behind it as far as no sides are wanted, among the nodes."""
        pair = self.past_equal(pair)
        if pair is None:
            return
        self.nodes.append(Node(pair.word, pair, []))
        if pair.word in ("one", "other"):
            self.sides_to_go.extend([(pair, 1), (pair, 0)])
            return
        self.ends += 1
        if pair.word == "parted":
            self.parted.append((pair, pair.grounds.inputs))

    def past_equal(self, pair):
        """The first pair behind numbers that are always equal; None if inputs part the two at such numbers."""
        while pair.word == "equal":
            pursuits = []
            for at in (0, 1):
                grounds, index = pair.grounds_less(at)
                pursuits.append(grounds.meet_condition(index, len(grounds.trees)))
                if pursuits[-1] is None:
                    self.ends += 1
                    self.parted.append((pair, grounds.inputs))
                    return None
            self.nodes.append(Node("equal", pair, pursuits))
            pair = pair.gone_on()
        return pair

    def are_too_many(self):
        return self.ends > self.many

    def told_tree(self):
        """The tree that the nodes make, put together from the last one on; only where no inputs part the two."""
        behind = []
        for node in self.nodes[::-1]:
            refutations = [refutation_by(pursuit) for pursuit in node.pursuits]
            if node.word in ("one", "other"):
                refutations = [behind.pop(), behind.pop()]
            elif node.word == "equal":
                refutations.append(behind.pop())
            behind.append((node.word, *refutations))
        return behind[0]


def met_side_by_side(program, other, steps, many):
    """The meeting of both, None if there are more than many ends."""
    meeting = Meeting(program, other, steps, many)
    meeting.go_through()
    return None if meeting.are_too_many() else meeting


def compared(program, other, steps, many):
    meeting = checked_meeting(program, other, steps, many)
    if meeting is None:
        return None
    if meeting.parted:
        return "parted", list(meeting.parted[0][1])
    cuts = [node for node in meeting.nodes if node.word == "cut"]
    return "so far" if cuts else "alike", meeting.told_tree()


def unlike_from(program, other, steps, many):
    meeting = checked_meeting(program, other, steps, many)
    if meeting is None:
        return "many"
    return min([pair.steps_needed() for pair, _ in meeting.parted], default=None)


def unlike_sides(program, other, steps, many):
    meeting = checked_meeting(program, other, steps, many)
    if meeting is None:
        return "many"
    return sorted([(*pair.told_sides(), pair.index) for pair, _ in meeting.parted])


def checked_meeting(program, other, steps, many):
    """The meeting of both, None for too many ends, behind the refusals."""
    check_program(program)
    check_other(other)
    check_steps(steps)
    check_many(many)
    return met_side_by_side(program, other, steps, many)
