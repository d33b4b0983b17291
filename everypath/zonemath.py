"""What zones come to, without any checks of what is handed over; what is told shares nothing with it."""

from everypath.closing import close
from everypath.kinds import is_integer, is_list, is_list_of, is_text
from everypath.rests import is_rest, rest_has, rest_joined, rest_met, rest_within
from everypath.stripmath import reduce_strip


def is_thing(thing):
    """Whether it may be a thing of a zone: a text other than "0"."""
    return is_text(thing) and thing != "0"


def are_things(thing):
    """Whether it is an ascending list of unlike things."""
    if not is_list(thing) or not all([is_thing(part) for part in thing]):
        return False
    return all([thing[at] < thing[at + 1] for at in range(len(thing) - 1)])


def is_zone_over(thing, things):
    """Whether it is a zone over these things, ascending, or the empty one."""
    return thing is None or is_full_zone(thing) and list(thing[0]) == list(things)


def is_full_zone(thing):
    """Whether it is a zone, but for the empty one."""
    if not is_list_of(thing, 3) or not are_things(thing[0]):
        return False
    things, bounds, rests = thing
    if not isinstance(bounds, dict) or not isinstance(rests, dict) or len(rests) != len(things):
        return False
    if not all([is_bound(pair, things) and is_integer(bounds[pair]) for pair in bounds]):
        return False
    return all([is_text(key) and key in things and is_rest(rests[key]) for key in rests])


def is_bound(pair, things):
    """Whether it is a pair of unlike ones of the things and "0"."""
    if not isinstance(pair, tuple) or len(pair) != 2 or not is_text(pair[0]) or not is_text(pair[1]):
        return False
    return pair[0] != pair[1] and all([node == "0" or node in things for node in pair])


def copied(zone):
    """A new zone just like it."""
    if zone is None:
        return None
    things, bounds, rests = zone
    return list(things), {pair: bounds[pair] for pair in bounds}, {thing: tuple(rests[thing]) for thing in things}


def has_values(zone, values):
    """Whether values, right ones of just the things, are in the zone."""
    if zone is None:
        return False
    things, bounds, rests = zone
    worth = {thing: values[thing] for thing in things}
    worth["0"] = 0
    if not all([worth[pair[0]] - worth[pair[1]] <= bounds[pair] for pair in bounds]):
        return False
    return all([rest_has(rests[thing], worth[thing]) for thing in things])


def lies_below(zone, other):
    """Whether zone is below other, as both stand."""
    if zone is None or other is None:
        return zone is None
    things, bounds, rests = zone
    for pair in other[1]:
        if pair not in bounds or bounds[pair] > other[1][pair]:
            return False
    return all([rest_within(rests[thing], other[2][thing]) for thing in things])


def join_zones(zone, other):
    """Their join, as both stand."""
    if zone is None or other is None:
        return copied(other if zone is None else zone)
    things, bounds, rests = zone
    wider = {pair: max(bounds[pair], other[1][pair]) for pair in bounds if pair in other[1]}
    return list(things), wider, {thing: rest_joined(rests[thing], other[2][thing]) for thing in things}


def meet_zones(zone, other):
    """What both leave, over the things of one or the other."""
    if zone is None or other is None:
        return None
    rests = met_rests(zone[2], other[2])
    if rests is None:
        return None
    bounds = {pair: zone[1][pair] for pair in zone[1]}
    for pair in other[1]:
        bounds[pair] = min(other[1][pair], bounds.get(pair, other[1][pair]))
    return sorted(rests), bounds, rests


def met_rests(rests, others):
    """The rests of all things, None if one of them has none."""
    found = {thing: tuple(rests[thing]) for thing in rests}
    for thing in others:
        rest = tuple(others[thing])
        if thing in found:
            rest = rest_met(found[thing], rest)
        if rest is None:
            return None
        found[thing] = rest
    return found


def strip_from(zone, thing):
    """The strip of a thing by its bounds against "0" and its rest, as the zone stands."""
    bounds, rest = zone[1], zone[2][thing]
    low = bounds.get(("0", thing))
    return reduce_strip(None if low is None else -low, bounds.get((thing, "0")), rest[0], rest[1])


def keep(zone, things):
    """The zone as it stands, with just these of its things."""
    if zone is None:
        return None
    bounds = zone[1]
    left = [thing for thing in zone[0] if thing in things]
    kept_bounds = {pair: bounds[pair] for pair in bounds if all([node == "0" or node in left for node in pair])}
    return left, kept_bounds, {thing: tuple(zone[2][thing]) for thing in left}


def rename(zone, names):
    """The zone as it stands, each thing being called as names tells."""
    if zone is None:
        return None
    bounds, rests = zone[1], zone[2]
    called = {thing: names[thing] for thing in zone[0]}
    called["0"] = "0"
    moved = {(called[pair[0]], called[pair[1]]): bounds[pair] for pair in bounds}
    return sorted([called[thing] for thing in zone[0]]), moved, {called[thing]: tuple(rests[thing]) for thing in rests}


def close_within(zone, thing):
    """The strip of a thing in the zone closed, None if that is empty."""
    shut = close(zone)
    return None if shut is None else strip_from(shut, thing)
