"""Ladders: the rungs to which the bounds of zones are rounded up."""

from everypath.errors import BadLadder
from everypath.kinds import are_integers
from everypath.zones import check_zone


def rounded(zone, ladder):
    check_zone(zone)
    check_ladder(ladder)
    return round_up(zone, ladder)


def check_ladder(ladder):
    if not is_ladder(ladder):
        raise BadLadder(ladder)


def is_ladder(thing):
    """Whether it is a list of ascending unlike integers."""
    return are_integers(thing) and all([thing[at] < thing[at + 1] for at in range(len(thing) - 1)])


def round_up(zone, ladder):
    """The zone as it stands, each bound being the least rung that is at least it, left out if there is none."""
    if zone is None:
        return None
    things, bounds, rests = zone
    rungs = {pair: least_rung(ladder, bounds[pair]) for pair in bounds}
    rounded_bounds = {pair: rungs[pair] for pair in rungs if rungs[pair] is not None}
    return list(things), rounded_bounds, {thing: tuple(rests[thing]) for thing in rests}


def least_rung(ladder, bound):
    """The least rung that is at least the bound, None if there is none."""
    for rung in ladder:
        if rung >= bound:
            return rung
    return None
