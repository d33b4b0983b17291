"""What strips come to, without any checks of what is handed over."""

from math import gcd

from everypath.rests import rest_has, rest_met, rest_of, rest_within

ALL = (None, None, 1, 0)


def alone(n):
    """The strip of one integer."""
    return (n, n, 0, n)


def chosen_end(one, other, pick):
    """Of two ends the one that pick tells; the other one, if one is lacking."""
    if one is None:
        return other
    if other is None:
        return one
    return pick(one, other)


def least(one, other):
    return min(one, other)


def greatest(one, other):
    return max(one, other)


def reduce_strip(low, high, modulus, remainder):
    """The strip of what the quadruple has."""
    if modulus == 0:
        if (low is None or low <= remainder) and (high is None or remainder <= high):
            return alone(remainder)
        return None
    if low is not None:
        low += (remainder - low) % modulus
    if high is not None:
        high -= (high - remainder) % modulus
    if low is not None and high is not None and low >= high:
        return alone(low) if low == high else None
    return (low, high, modulus, remainder % modulus)


def has(strip, n):
    if strip is None:
        return False
    low, high, modulus, remainder = strip
    if low is not None and n < low or high is not None and n > high:
        return False
    return rest_has((modulus, remainder), n)


def lies_within(strip, other):
    """Whether other has all that strip has."""
    if strip is None:
        return True
    if other is None or not rest_within(strip[2:], other[2:]):
        return False
    low_fits = other[0] is None or strip[0] is not None and strip[0] >= other[0]
    high_fits = other[1] is None or strip[1] is not None and strip[1] <= other[1]
    return low_fits and high_fits


def join(strip, other):
    """The least strip around what one or the other has."""
    if strip is None or other is None:
        return other if strip is None else strip
    low = None if strip[0] is None or other[0] is None else min(strip[0], other[0])
    high = None if strip[1] is None or other[1] is None else max(strip[1], other[1])
    modulus = gcd(strip[2], other[2], strip[3] - other[3])
    return reduce_strip(low, high, modulus, strip[3])


def meet(strip, other):
    """The strip of what both have."""
    if strip is None or other is None:
        return None
    rest = rest_met(strip[2:], other[2:])
    if rest is None:
        return None
    low = chosen_end(strip[0], other[0], greatest)
    high = chosen_end(strip[1], other[1], least)
    return reduce_strip(low, high, rest[0], rest[1])


def without(strip, n):
    """The least strip around all that it has but n."""
    if not has(strip, n):
        return strip
    low, high, modulus, remainder = strip
    if modulus == 0:
        return None
    if n == low:
        return reduce_strip(low + modulus, high, modulus, remainder)
    if n == high:
        return reduce_strip(low, high - modulus, modulus, remainder)
    if low == n - modulus and high == n + modulus:
        return reduce_strip(low, high, 2 * modulus, low)
    return strip


def add_ends(one, other):
    return None if one is None or other is None else one + other


def total(strip, other):
    """The least strip around the sums of what both have."""
    if strip is None or other is None:
        return None
    rest = rest_of(gcd(strip[2], other[2]), strip[3] + other[3])
    return (add_ends(strip[0], other[0]), add_ends(strip[1], other[1]), rest[0], rest[1])


def multiple(n, strip):
    """The least strip around n times what it has."""
    if strip is None:
        return None
    if n == 0:
        return alone(0)
    low = None if strip[0] is None else n * strip[0]
    high = None if strip[1] is None else n * strip[1]
    if n < 0:
        low, high = high, low
    rest = rest_of(abs(n) * strip[2], n * strip[3])
    return (low, high, rest[0], rest[1])


def divided(strip, n):
    """What has the quotients of what it has by n, by the rule for them."""
    if strip is None:
        return None
    low = None if strip[0] is None else strip[0] // n
    high = None if strip[1] is None else strip[1] // n
    if strip[2] % n == 0:
        return reduce_strip(low, high, strip[2] // n, strip[3] // n)
    return reduce_strip(low, high, 1, 0)


def remaining(strip, n):
    """What has the remainders of what it has by n, by the rule for them."""
    if strip is None:
        return None
    low, high, modulus, remainder = strip
    if low is not None and high is not None and low // n == high // n:
        return reduce_strip(low % n, high % n, modulus, remainder - low // n * n)
    return reduce_strip(0, n - 1, gcd(modulus, n), remainder)
