"""Dicts from numbers to how often each of them is taken, and common divisors of rows."""

from math import gcd, lcm


def add_multiples(multiples, others, times):
    """Adds so many times others to multiples, both dicts."""
    for at in others:
        multiples[at] = multiples.get(at, 0) + times * others[at]


def without_zeros(multiples):
    return {at: multiples[at] for at in multiples if multiples[at] != 0}


def dot(factors, column):
    """The sum of factors, a dict, times the parts of a list."""
    total = 0
    for at in factors:
        total += factors[at] * column[at]
    return total


def common_divisor(numbers):
    """The greatest common divisor, 0 of none and of zeros alone."""
    found = 0
    for number in numbers:
        found = gcd(found, number)
        if found == 1:
            break
    return found


def common_multiple(numbers):
    found = 1
    for number in numbers:
        found = lcm(found, number)
    return found
