"""Cuts and rows of sides: what they are, and what lies on a row of sides."""

from everypath.kinds import is_integer, is_list, is_list_of, is_text, tupled


def are_cuts(thing, lets):
    """Whether it is a list of unlike pairs of a text that lets takes and an integer."""
    if not is_list(thing) or not all([is_cut(part, lets) for part in thing]):
        return False
    return len(set(tupled(thing))) == len(thing)


def is_cut(thing, lets):
    return is_list_of(thing, 2) and is_text(thing[0]) and lets(thing[0]) and is_integer(thing[1])


def is_row(thing, many):
    """Whether it is a row of sides of so many cuts."""
    return is_list_of(thing, many) and all([is_integer(side) and side in (0, 1) for side in thing])


def with_sides(zone, cuts, sides):
    """The zone as it stands with the bounds of these sides, or its own where they are less."""
    things, bounds, rests = zone
    narrower = {pair: bounds[pair] for pair in bounds}
    for (thing, n), side in zip(cuts, sides):
        pair, bound = ((thing, "0"), n - 1) if side == 0 else (("0", thing), -n)
        narrower[pair] = min(bound, narrower.get(pair, bound))
    return list(things), narrower, {thing: tuple(rests[thing]) for thing in rests}


def row_of(cuts, numbers):
    """The row of sides on which numbers lie."""
    return tuple([0 if numbers[thing] < n else 1 for thing, n in cuts])
