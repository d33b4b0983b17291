"""What a paper demands: at entries, exits and places, by what comes there from entries and places.

A DEMAND is a triple (why, where, zone), the zone closed. An ORIGIN is what demands come from: ("begin",),
("enter", f), or ("edge", f, number, sides) for an edge and the row from which it goes.
"""

from everypath.callsteps import begin, end_with, go_on, hand_over
from everypath.closing import close
from everypath.cuts import with_sides
from everypath.zonedeeds import step


def origins_of(program, paper):
    """All origins, in the order of what they demand."""
    _, entries, _, cells = paper
    found = [("begin",)]
    for f in program.params:
        if entries[f] is not None:
            found.append(("enter", f))
        for place, numbers in enumerate(program.starts[f]):
            for sides in sorted(cells[f][place]):
                found.extend([("edge", f, number, sides) for number in numbers])
    return found


def demanded_by(program, paper, origin):
    """What is demanded by one origin."""
    if origin[0] == "begin":
        return [(origin, ("entry", "main"), ([], {}, {}))]
    if origin[0] == "enter":
        f = origin[1]
        return demands_at(paper, origin, f, 0, begin(program, f, paper[1][f]))
    return demanded_along(program, paper, origin)


def demanded_along(program, paper, origin):
    """What is demanded by an edge that goes from a cell."""
    _, f, number, sides = origin
    start, end, action = program.edges[f][number]
    zone = paper[3][f][start][sides]
    if action[0] == "return":
        shut = close(end_with(program, f, zone, action[1]))
        return demands_of(("return", f, number, sides), ("exit", f), shut)
    if action[0] != "call":
        return demands_at(paper, ("step", f, number, sides), f, end, step(zone, action))
    g = action[2]
    shut = close(hand_over(program, zone, g, action[3]))
    found = demands_of(("call", f, number, sides), ("entry", g), shut)
    behind = go_on(program, zone, action, paper[2][g])
    return [*found, *demands_at(paper, ("back", f, number, sides), f, end, behind)]


def demands_of(why, where, shut):
    """The demand of one closed zone, none of an empty one."""
    return [] if shut is None else [(why, where, shut)]


def demands_at(paper, why, f, place, zone):
    """The demands at a place of f of a zone, parted by the cuts of f."""
    return [(why, ("cell", f, place, sides), part) for sides, part in parts_of_zone(zone, paper[0][f])]


def parts_of_zone(zone, cuts):
    """The pairs (row of sides, what of the zone is on it) for all rows with something on them, ascending."""
    if zone is None:
        return []
    found = []
    for sides in rows_of(cuts):
        part = with_sides(zone, cuts, sides)
        shut = None if is_crossed(part, cuts) else close(part)
        if shut is not None:
            found.append((sides, shut))
    return found


def is_crossed(zone, cuts):
    """Whether a thing of the cuts is bound below what it is bound to from below: then nothing is left of the zone."""
    bounds = zone[1]
    for thing, _ in cuts:
        pair, back = (thing, "0"), ("0", thing)
        if pair in bounds and back in bounds and bounds[pair] + bounds[back] < 0:
            return True
    return False


def rows_of(cuts):
    """All rows of sides of these cuts, ascending."""
    found = [()]
    for _ in cuts:
        found = [(*row, side) for row in found for side in (0, 1)]
    return found
