"""Zones: bounds of differences between things, and the remainders that they leave."""

from everypath.closing import close
from everypath.errors import BadNames, BadThing, BadThings, BadZone
from everypath.kinds import is_integer, is_list, is_text
from everypath.zonemath import (close_within, has_values, is_full_zone, is_thing, join_zones, keep, lies_below,
                                meet_zones, rename)


def is_zone(thing):
    return thing is None or is_full_zone(thing)


def closed(zone):
    check_zone(zone)
    return close(zone)


def is_in(zone, values):
    check_zone(zone)
    return zone is not None and are_values(values, zone[0]) and has_values(zone, values)


def is_even(zone):
    check_zone(zone)
    if zone is None:
        return False
    moduli = [rest[0] for rest in list(zone[2].values()) if rest[0] != 0]
    return len(set(moduli)) <= 1


def is_below(zone, other):
    check_both(zone, other)
    return lies_below(zone, other)


def is_within(zone, other):
    check_both(zone, other)
    return lies_below(close(zone), other)


def joined(zone, other):
    check_both(zone, other)
    return join_zones(close(zone), close(other))


def met(zone, other):
    check_zone(zone)
    check_zone(other)
    return meet_zones(zone, other)


def strip_in(zone, thing):
    check_zone(zone)
    if zone is None:
        return None
    check_thing(zone, thing)
    return close_within(zone, thing)


def kept(zone, things):
    check_zone(zone)
    if zone is None:
        return None
    if not are_among(things, zone[0]):
        raise BadThings(things)
    return keep(close(zone), things)


def renamed(zone, names):
    check_zone(zone)
    if zone is None:
        return None
    if not are_names(names, zone[0]):
        raise BadNames(names)
    return rename(zone, names)


def check_zone(zone):
    if not is_zone(zone):
        raise BadZone(zone)


def check_both(zone, other):
    """The refusals of two zones that are to be over the same things."""
    check_zone(zone)
    check_zone(other)
    if zone is not None and other is not None and list(zone[0]) != list(other[0]):
        raise BadZone(other)


def check_thing(zone, thing):
    if not is_text(thing) or thing not in zone[0]:
        raise BadThing(thing)


def are_values(thing, things):
    """Whether it is a dict from just these things to integers."""
    if not isinstance(thing, dict) or len(thing) != len(things):
        return False
    return all([is_text(key) and key in things and is_integer(thing[key]) for key in thing])


def are_among(thing, things):
    """Whether it is a list of unlike ones of these things."""
    if not is_list(thing) or not all([is_text(part) and part in things for part in thing]):
        return False
    return len(set(thing)) == len(thing)


def are_names(thing, things):
    """Whether it is a dict from just these things to unlike things."""
    if not isinstance(thing, dict) or len(thing) != len(things):
        return False
    if not all([is_text(key) and key in things and is_thing(thing[key]) for key in thing]):
        return False
    return len(set(list(thing.values()))) == len(thing)
