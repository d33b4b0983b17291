"""Rests: pairs (m, r), the integer r alone for the modulus 0, else the integers that leave r when divided by m."""

from math import gcd

from everypath.kinds import is_integer, is_list_of

ANY = (1, 0)
ZERO = (0, 0)


def is_rest(thing):
    if not is_list_of(thing, 2) or not is_integer(thing[0]) or not is_integer(thing[1]):
        return False
    return thing[0] == 0 or 0 <= thing[1] < thing[0]


def rest_of(modulus, remainder):
    """The rest of the integers that differ from remainder by multiples of modulus."""
    if modulus == 0:
        return (0, remainder)
    return (modulus, remainder % modulus)


def rest_has(rest, n):
    return rest_of(rest[0], n) == tuple(rest)


def rest_within(rest, other):
    """Whether all integers of rest are integers of other."""
    if other[0] == 0:
        return rest[0] == 0 and rest[1] == other[1]
    return rest[0] % other[0] == 0 and (rest[1] - other[1]) % other[0] == 0


def rest_joined(rest, other):
    """The rest of the greatest modulus in which the integers of both are."""
    return rest_of(gcd(rest[0], other[0], rest[1] - other[1]), rest[1])


def rest_met(rest, other):
    """The rest of the integers that are in both, None if there are none."""
    if rest[0] == 0 or other[0] == 0:
        one, two = (rest, other) if rest[0] == 0 else (other, rest)
        return one if rest_has(two, one[1]) else None
    common = gcd(rest[0], other[0])
    apart = other[1] - rest[1]
    if apart % common != 0:
        return None
    part = other[0] // common
    times = apart // common * inverse(rest[0] // common, part) % part
    return rest_of(rest[0] * part, rest[1] + rest[0] * times)


def rest_moved(rest, n):
    """The rest of its integers plus n."""
    return rest_of(rest[0], rest[1] + n)


def inverse(n, modulus):
    """By what n, without a common divisor with modulus, comes to 1 but for multiples of modulus."""
    before, now = modulus, n % modulus
    factor_before, factor = 0, 1
    while now != 0:
        times = before // now
        before, now = now, before - times * now
        factor_before, factor = factor, factor_before - times * factor
    return factor_before % modulus
