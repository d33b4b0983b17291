"""The judge of papers: what a paper demands, whether it holds that, and what lies in it."""

from everypath.cuts import row_of
from everypath.demanding import demanded_by, origins_of
from everypath.errors import BadOther
from everypath.evaluating import value_of
from everypath.kinds import tupled
from everypath.papers import check_paper, is_paper_of, start_thing
from everypath.programs import check_program
from everypath.states import action_at, check_state
from everypath.zonemath import has_values, lies_below, meet_zones


def demands(program, paper):
    check_program(program)
    check_paper(program, paper)
    found = []
    for origin in origins_of(program, paper):
        found.extend(demanded_by(program, paper, origin))
    return found


def judged(program, paper):
    check_program(program)
    check_paper(program, paper)
    return fault_of(program, paper)


def fault_of(program, paper):
    """(why, where) of the first demand of a right paper that is not held, None if all are."""
    for origin in origins_of(program, paper):
        for why, where, zone in demanded_by(program, paper, origin):
            there = zone_at(paper, where)
            if there is None or not lies_below(zone, there):
                return why, where
    return None


def zone_at(paper, where):
    """The zone of a paper at an entry, an exit or a cell; None if there is none."""
    if where[0] == "entry":
        return paper[1][where[1]]
    if where[0] == "exit":
        return paper[2][where[1]]
    _, f, place, sides = where
    return paper[3][f][place].get(sides)


def lies(program, paper, state):
    check_program(program)
    check_paper(program, paper)
    check_state(program, state)
    started = {}
    for frame in state:
        f, place, values = frame
        zone = zone_at(paper, ("cell", f, place, row_of(paper[0][f], values)))
        if zone is None or not has_values(zone, {**values, **started}):
            return False
        started = handed_over(program, frame)
    return True


def handed_over(program, frame):
    """What the params are at first of the frame that a frame's call puts above it, by their things; {} for no call."""
    action = action_at(program, frame)
    if action[0] != "call":
        return {}
    params = program.params[action[2]]
    return {start_thing(param): value_of(part, frame[2]) for param, part in zip(params, action[3])}


def met_papers(program, paper, other):
    check_program(program)
    check_paper(program, paper)
    if not is_paper_of(program, other) or not are_alike(program, paper[0], other[0]):
        raise BadOther(other)
    functions = list(program.params)
    cuts = {f: [(x, n) for x, n in paper[0][f]] for f in functions}
    entries = {f: meet_zones(paper[1][f], other[1][f]) for f in functions}
    exits = {f: meet_zones(paper[2][f], other[2][f]) for f in functions}
    return cuts, entries, exits, {f: met_places(paper[3][f], other[3][f]) for f in functions}


def are_alike(program, cuts, others):
    """Whether all functions have the same lists of cuts."""
    return all([tupled(cuts[f]) == tupled(others[f]) for f in program.params])


def met_places(places, others):
    """The cells of each place, met."""
    found = []
    for cells, more in zip(places, others):
        met = {sides: meet_zones(cells[sides], more.get(sides)) for sides in cells}
        found.append({sides: met[sides] for sides in sorted(met) if met[sides] is not None})
    return found
