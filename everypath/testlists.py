"""Tests: which edges runs touch, and the fewest inputs that touch all edges that any run touches.

A LOT is an integer with a bit for each of its numbers.
"""

from everypath.covers import checked_gathering
from everypath.errors import BadSides
from everypath.paths import checked_trail
from everypath.trails import Trail, gone_along


class TouchTrail(Trail):
    """Notes the edges that the running frame takes; touched: a dict of them."""

    def __init__(self, program):
        self.touched = {}
        Trail.__init__(self, program)

    def touch(self, f, number):
        self.touched[(f, number)] = True


def touched(program, sides, steps):
    if checked_trail(program, sides, steps).wants_side():
        raise BadSides(sides)
    return sorted(touched_along(program, sides, steps))


def untested(program, steps, many):
    gathering = checked_gathering(program, steps, many)
    if gathering is None:
        return None
    found = {}
    for branch in gathering.found:
        found.update(touched_along(program, branch.trail.sides, steps))
    edges = [(f, number) for f in program.edges for number in range(len(program.edges[f]))]
    return sorted([edge for edge in edges if edge not in found])


def tests(program, steps, many):
    gathering = checked_gathering(program, steps, many)
    if gathering is None:
        return None
    touching = {}
    for index, branch in enumerate(gathering.found):
        for edge in touched_along(program, branch.trail.sides, steps):
            touching.setdefault(edge, []).append(index)
    chosen = fewest_of_each(list(touching.values()), len(gathering.found))
    return [list(gathering.found[index].grounds.inputs) for index in chosen]


def touched_along(program, sides, steps):
    """A dict of the edges that are touched along right sides."""
    trail = TouchTrail(program)
    trail.go(steps)
    gone_along(trail, sides, steps)
    return trail.touched


def fewest_of_each(lots, many):
    """The fewest of the numbers below many that have one of each list of them; of several such lists the least one."""
    rows = least_lots([sum([1 << number for number in lot]) for lot in lots])
    size = 0
    while not can_choose(rows, size):
        size += 1
    chosen = []
    for number in range(many):
        if rows:
            left = [row for row in rows if not has_number(row, number)]
            if can_choose([above(row, number) for row in left], size - len(chosen) - 1):
                chosen.append(number)
                rows = left
    return chosen


def has_number(row, number):
    return (row >> number) & 1 == 1


def above(row, number):
    """The lot without the numbers up to this one."""
    return (row >> (number + 1)) << (number + 1)


def least_lots(rows):
    """The lots without those that have all numbers of another one."""
    found = []
    for row in sorted(rows, key=many_bits):
        if not any([other & row == other for other in found]):
            found.append(row)
    return found


def can_choose(rows, size):
    """Whether so many numbers can have one of each lot."""
    if not rows:
        return True
    if many_apart(rows) > size or 0 in rows:
        return False
    row = min(rows, key=many_bits)
    number = 0
    while row >> number > 0:
        if has_number(row, number):
            if can_choose([other for other in rows if not has_number(other, number)], size - 1):
                return True
            # it is in no choice, so the others are looked for without it
            rows = [other & ~(1 << number) for other in rows]
        number += 1
    return False


def many_apart(rows):
    """How many lots there are, taken from the least ones on, no two of which share a number."""
    many = 0
    taken = 0
    for row in sorted(rows, key=many_bits):
        if row & taken == 0:
            many += 1
            taken |= row
    return many


def many_bits(row):
    many = 0
    while row > 0:
        row &= row - 1
        many += 1
    return many
