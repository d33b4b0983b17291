"""What tests go through one by one: all runs of a program, and papers that the judge takes."""

from everypath.judge import demands
from everypath.ladders import rounded
from everypath.graphs import edges, places
from everypath.paths import path_of
from everypath.zonemath import join_zones


def any_range(program, why):
    """The range of the any at which a run asks."""
    return edges(program, why[1])[why[2]][2][2:]


def all_runs(program, steps, most):
    """(inputs, sides, why) of all runs that do not ask within so many steps, by ascending inputs; None if more."""
    found, waiting = [], [[]]
    while waiting:
        inputs = waiting.pop()
        sides, why = path_of(program, inputs, steps)
        if why[0] != "asks":
            found.append((inputs, sides, why))
        else:
            low, high = any_range(program, why)
            waiting.extend([*inputs, n] for n in range(high, low - 1, -1))
        if len(found) + len(waiting) > most:
            return None
    return found


def empty(program, cuts):
    functions = [f for f, _, _ in program.functions()]
    return ({f: cuts.get(f, []) for f in functions}, {f: None for f in functions}, {f: None for f in functions},
            {f: [{} for _ in range(places(program, f))] for f in functions})


def taken_paper(program, ladder, cuts):
    """A paper that the judge takes: what is demanded is joined to what is there, rounded up, until all is held."""
    paper = empty(program, cuts)
    while True:
        grown = False
        for _, where, zone in demands(program, paper):
            there, key = (paper[1], where[1]) if where[0] == "entry" else (paper[2], where[1])
            if where[0] == "cell":
                there, key = paper[3][where[1]][where[2]], where[3]
            old = there.get(key)
            new = join_zones(old, rounded(zone, ladder))
            if new != old:
                there[key] = new
                grown = True
        if not grown:
            return paper
