"""Strips: sets of integers from a low to a high end that leave one remainder."""

from everypath.errors import BadInteger, BadStrip
from everypath.kinds import is_integer, is_list_of, is_number
from everypath.rests import is_rest, rest_has
from everypath.stripmath import (divided, has, join, lies_within, meet, multiple, reduce_strip, remaining, total,
                                 without)


def reduced(low, high, modulus, remainder):
    for end in (low, high):
        if end is not None:
            check_integer(end)
    if not is_number(modulus):
        raise BadInteger(modulus)
    check_integer(remainder)
    return reduce_strip(low, high, modulus, remainder)


def strip_has(strip, n):
    check_strip(strip)
    check_integer(n)
    return has(strip, n)


def strip_many(strip):
    check_strip(strip)
    if strip is None:
        return 0
    low, high, modulus = strip[0], strip[1], strip[2]
    if low is None or high is None:
        return None
    return 1 if modulus == 0 else (high - low) // modulus + 1


def strip_within(strip, other):
    check_strip(strip)
    check_strip(other)
    return lies_within(strip, other)


def strip_joined(strip, other):
    check_strip(strip)
    check_strip(other)
    return told(join(strip, other))


def strip_met(strip, other):
    check_strip(strip)
    check_strip(other)
    return told(meet(strip, other))


def strip_without(strip, n):
    check_strip(strip)
    check_integer(n)
    return told(without(strip, n))


def strip_sum(strip, other):
    check_strip(strip)
    check_strip(other)
    return total(strip, other)


def strip_times(n, strip):
    check_integer(n)
    check_strip(strip)
    return multiple(n, strip)


def strip_div(strip, n):
    check_strip(strip)
    check_divisor(n)
    return divided(strip, n)


def strip_mod(strip, n):
    check_strip(strip)
    check_divisor(n)
    return remaining(strip, n)


def told(strip):
    """A strip as it is told, a tuple even if a list was passed."""
    return None if strip is None else tuple(strip)


def is_strip(thing):
    """Whether it is a strip: None, (n, n, 0, n), or a quadruple with ends that it has."""
    if thing is None:
        return True
    if not is_list_of(thing, 4) or not is_rest(thing[2:]):
        return False
    low, high, modulus, remainder = thing
    ends = [end for end in (low, high) if end is not None]
    if not all([is_integer(end) and rest_has((modulus, remainder), end) for end in ends]):
        return False
    if len(ends) < 2:
        return modulus != 0
    return low == high if modulus == 0 else low < high


def check_strip(strip):
    if not is_strip(strip):
        raise BadStrip(strip)


def check_integer(n):
    if not is_integer(n):
        raise BadInteger(n)


def check_divisor(n):
    if not is_integer(n) or n < 1:
        raise BadInteger(n)
