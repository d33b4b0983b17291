"""Ladders: the rungs to which the bounds of zones are rounded up."""

from everypath.errors import BadLadder
from everypath.kinds import are_integers
from everypath.zones import check_zone


def rounded(zone, ladder):
    check_zone(zone)
    check_ladder(ladder)
    return round_up(zone, ladder)


def check_ladder(ladder):
    if not is_ladder(ladder):
        raise BadLadder(ladder)


def is_ladder(thing):
    """Whether it is a list of ascending unlike integers."""
    return are_integers(thing) and all([thing[at] < thing[at + 1] for at in range(len(thing) - 1)])


def round_up(zone, ladder):
    """The zone as it stands, each bound being the least rung that is at least it, left out if there is none."""
    if zone is None:
        return None
    things, bounds, rests = zone
    rounded_bounds = {}
    for pair in bounds:
        rungs = [rung for rung in ladder if rung >= bounds[pair]]
        if rungs:
            rounded_bounds[pair] = rungs[0]
    return list(things), rounded_bounds, {thing: tuple(rests[thing]) for thing in rests}
