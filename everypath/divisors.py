"""Common divisors and multiples of lists of integers."""

from math import gcd, lcm


def common_divisor(numbers):
    """The greatest common divisor, 0 of none and of zeros alone."""
    found = 0
    for number in numbers:
        found = gcd(found, number)
        if found == 1:
            break
    return found


def common_multiple(numbers):
    found = 1
    for number in numbers:
        found = lcm(found, number)
    return found
