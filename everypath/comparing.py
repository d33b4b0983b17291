"""Two programs compared for all inputs: inputs that part them, or a tree that shows there are none."""

from everypath.meetings import met_side_by_side
from everypath.programs import check_program
from everypath.runs import check_many, check_steps
from everypath.traces import check_other


def compared(program, other, steps, many):
    meeting = checked_meeting(program, other, steps, many)
    if meeting is None:
        return None
    if meeting.parted:
        return "parted", list(meeting.parted[0][1])
    cuts = [node for node in meeting.nodes if node.word == "cut"]
    return "so far" if cuts else "alike", meeting.told_tree()


def unlike_from(program, other, steps, many):
    meeting = checked_meeting(program, other, steps, many)
    if meeting is None:
        return "many"
    return min([pair.steps_needed() for pair, _ in meeting.parted], default=None)


def unlike_sides(program, other, steps, many):
    meeting = checked_meeting(program, other, steps, many)
    if meeting is None:
        return "many"
    return sorted([(*pair.told_sides(), pair.index) for pair, _ in meeting.parted])


def checked_meeting(program, other, steps, many):
    """The meeting of both, None for too many ends, behind the refusals."""
    check_program(program)
    check_other(other)
    check_steps(steps)
    check_many(many)
    return met_side_by_side(program, other, steps, many)
