"""[6.1] to [6.4], [6.8]: strips."""

import itertools
import math
import random
import unittest

from everypath import strips
from everypath.errors import BadInteger, BadStrip
from everypath.strips import (reduced, strip_div, strip_has, strip_joined, strip_many, strip_met, strip_mod,
                              strip_sum, strip_times, strip_within, strip_without)
from tests.helpers import any_objects, refused, told

WIDE = 60
RIGHT = [None, (3, 3, 0, 3), (0, 4, 2, 0), (None, None, 1, 0), (None, 7, 4, 3), (-6, None, 5, 4)]
WRONG = [(3, 3, 0, 2), (3, 3, 1, 0), (0, 5, 2, 0), (0, 4, 2, 2), (0, 4, 2, -2), (0, 4, 0, 0), (4, 0, 2, 0),
         (None, 3, 0, 3), (None, None, 0, 0), (0, 4, -2, 0), (0, True, 1, 0), (False, 4, 2, 0), (0, 4, True, 0),
         (0, 4, 2, False), (0, 4, 2), (0, 4, 2, 0, 0), (0, "4", 2, 0), (0, 4, None, 0), (1, None, 2, 0)]


def least_around(members):
    """The least strip around some integers, by its own words."""
    if not members:
        return None
    low, high = min(members), max(members)
    modulus = math.gcd(*[member - low for member in members])
    return (low, high, modulus, low if modulus == 0 else low % modulus)


def members_of(strip, reach=WIDE):
    """The integers of a strip that lie within reach."""
    return [n for n in range(-reach, reach + 1) if strip_has(strip, n)]


def random_strip(source, ends=10):
    low = source.choice([None, *range(-ends, ends)])
    high = source.choice([None, *range(-ends, ends)])
    return reduced(low, high, source.randrange(7), source.randrange(-9, 9))


def bounded_strips():
    return sorted({reduced(low, high, modulus, remainder) for low in range(-3, 3) for high in range(-2, 5)
                   for modulus in range(4) for remainder in range(3)} - {None}) + [None]


class StripsTest(unittest.TestCase):
    def test_example(self):
        s = told(self, reduced, low=-1, high=20, modulus=6, remainder=4)
        u = reduced(0, None, 4, 0)
        self.assertEqual(s, (4, 16, 6, 4))
        self.assertEqual(told(self, strip_joined, strip=s, other=(1, 1, 0, 1)), (1, 16, 3, 1))
        self.assertEqual(told(self, strip_met, strip=s, other=u), (4, 16, 12, 4))
        self.assertEqual(told(self, strip_without, strip=s, n=10), (4, 16, 12, 4))
        self.assertEqual(told(self, strip_div, strip=s, n=3), (1, 5, 2, 1))
        self.assertEqual(told(self, strip_div, strip=s, n=4), (1, 4, 1, 0))
        self.assertEqual(told(self, strip_mod, strip=s, n=4), (0, 2, 2, 0))
        self.assertEqual(told(self, strip_mod, strip=s, n=9), (1, 7, 3, 1))

    def test_reduced(self):
        ends = [None, *range(-5, 6)]
        for low, high, modulus, remainder in itertools.product(ends, ends, range(5), range(-3, 6)):
            strip = reduced(low, high, modulus, remainder)
            had = [n for n in range(-40, 41) if (low is None or low <= n) and (high is None or n <= high)
                   and (n == remainder if modulus == 0 else (n - remainder) % modulus == 0)]
            self.assertEqual(members_of(strip, 40), had)
            if modulus == 0 or low is not None and high is not None:
                self.assertEqual(strip, least_around(had))
            else:
                self.assertEqual(strip[2:], (modulus, remainder % modulus))
                self.assertEqual(strip[0], None if low is None else had[0])
                self.assertEqual(strip[1], None if high is None else had[-1])

    def test_what_is_a_strip(self):
        for strip in RIGHT:
            self.assertEqual(strip_joined(strip, None), strip)
        for strip in WRONG + [thing for thing in any_objects() if thing is not None and thing != (None, None)]:
            refused(self, BadStrip, strip, strip_many, strip)

    def test_many_and_within(self):
        source = random.Random(1)
        self.assertEqual(told(self, strip_many, strip=(4, 16, 6, 4)), 3)
        self.assertEqual([strip_many(strip) for strip in RIGHT], [0, 1, 3, None, None, None])
        for _ in range(400):
            strip, other = random_strip(source), random_strip(source)
            self.assertIs(strip_within(strip, other), set(members_of(strip)) <= set(members_of(other)))
            self.assertIs(strip_within(strip, strip), True)
            if None not in (strip or ()):
                self.assertEqual(strip_many(strip), len(members_of(strip)))
        for strip, other in itertools.product(bounded_strips(), repeat=2):
            self.assertIs(strip_within(strip, other), set(members_of(strip, 9)) <= set(members_of(other, 9)))
        self.assertIs(told(self, strip_within, strip=(0, 4, 2, 0), other=(None, None, 1, 0)), True)
        self.assertIs(told(self, strip_has, strip=(0, 4, 2, 0), n=3), False)

    def test_least_ones_of_bounded_strips(self):
        for strip, other in itertools.product(bounded_strips(), repeat=2):
            one, two = members_of(strip, 9), members_of(other, 9)
            self.assertEqual(strip_joined(strip, other), least_around(one + two))
            self.assertEqual(strip_met(strip, other), least_around([n for n in one if n in two]))
            self.assertEqual(strip_sum(strip, other), least_around([x + y for x in one for y in two]))
        for strip, n in itertools.product(bounded_strips(), range(-5, 6)):
            members = members_of(strip, 9)
            self.assertEqual(strip_without(strip, n), least_around([x for x in members if x != n]))
            self.assertEqual(strip_times(n, strip), least_around([n * x for x in members]))

    def test_least_ones_of_strips_without_ends(self):
        source = random.Random(2)
        for _ in range(600):
            strip, other, n = random_strip(source), random_strip(source), source.randrange(-9, 10)
            one, two = members_of(strip, 500), members_of(other, 500)
            for found, members in (
                    (strip_joined(strip, other), [*one, *two]), (strip_without(strip, n), [x for x in one if x != n]),
                    (strip_met(strip, other), sorted(set(one) & set(two))),
                    (strip_sum(strip, other), [x + y for x in one for y in two] if one and two else [])):
                self.assert_least(found, members)
            self.assert_least(strip_times(n, strip), [n * x for x in one])

    def assert_least(self, found, members):
        """That it is the least strip around members, ends at 400 and beyond standing for none."""
        least = least_around(members)
        if least is None or found is None:
            self.assertEqual(found, least)
            return
        self.assertEqual(found[2:], least[2:])
        self.assertEqual(found[0], least[0] if least[0] > -400 else None)
        self.assertEqual(found[1], least[1] if least[1] < 400 else None)

    def test_quotients(self):
        for strip in bounded_strips() + RIGHT:
            for n in range(1, 9):
                divided, remaining = strip_div(strip, n), strip_mod(strip, n)
                for x in members_of(strip):
                    self.assertTrue(strip_has(divided, x // n))
                    self.assertTrue(strip_has(remaining, x % n))
                if strip is None:
                    self.assertIsNone(divided)
                    self.assertIsNone(remaining)
        self.assertEqual(strip_div((None, 7, 4, 3), 2), (None, 3, 2, 1))
        self.assertEqual(strip_div((None, 7, 4, 3), 3), (None, 2, 1, 0))
        self.assertEqual(strip_mod((None, 7, 4, 3), 6), (1, 5, 2, 1))
        self.assertEqual(strip_mod((10, 16, 2, 0), 5), (0, 4, 1, 0))
        self.assertEqual(strip_mod((6, 10, 2, 0), 8), (0, 6, 2, 0))
        self.assertEqual(strip_mod((-8, -2, 3, 1), 10), (2, 8, 3, 2))
        self.assertEqual(strip_mod((-8, -2, 3, 1), 1), (0, 0, 0, 0))

    def test_great_integers(self):
        n = 10 ** 60
        self.assertEqual(strip_met((None, None, n, 1), (None, None, n + 1, 0)), (None, None, n * (n + 1), n + 1))
        self.assertEqual(strip_met((-n, n, 1, 0), (None, None, n, 0)), (-n, n, n, 0))
        self.assertEqual(strip_sum((-n, n, 1, 0), (n, None, n, 0)), (0, None, 1, 0))
        self.assertEqual(strip_many((-n, n, 1, 0)), 2 * n + 1)

    def test_integers_refused(self):
        for thing in [thing for thing in any_objects() if not isinstance(thing, int)] + [True, False]:
            if thing is not None:
                refused(self, BadInteger, thing, reduced, thing, "x", -1, None)
                refused(self, BadInteger, thing, reduced, None, thing, -1, None)
            refused(self, BadInteger, thing, reduced, None, 3, thing, None)
            refused(self, BadInteger, thing, reduced, None, 3, 2, thing)
            refused(self, BadInteger, thing, strip_has, None, thing)
            refused(self, BadInteger, thing, strip_without, (0, 4, 2, 0), thing)
            refused(self, BadInteger, thing, strip_times, thing, 17)
            refused(self, BadInteger, thing, strip_div, None, thing)
            refused(self, BadInteger, thing, strip_mod, (0, 4, 2, 0), thing)
        refused(self, BadInteger, -1, reduced, 0, 0, -1, 0)
        for n in (0, -1, -5):
            refused(self, BadInteger, n, strip_div, None, n)
            refused(self, BadInteger, n, strip_mod, None, n)

    def test_strips_refused(self):
        for thing in WRONG + [thing for thing in any_objects() if thing is not None]:
            for function in (strip_has, strip_without, strip_div, strip_mod):
                refused(self, BadStrip, thing, function, thing, None)
            refused(self, BadStrip, thing, strip_times, 3, thing)
            for function in (strip_within, strip_joined, strip_met, strip_sum):
                refused(self, BadStrip, thing, function, thing, 17)
                refused(self, BadStrip, thing, function, None, thing)

    def test_lists_and_names(self):
        for function in (strip_within, strip_joined, strip_met, strip_sum):
            for strip, other in itertools.product(RIGHT, repeat=2):
                told(self, function, strip=strip, other=other)
        for strip in RIGHT:
            told(self, strip_many, strip=strip)
            told(self, strip_has, strip=strip, n=4)
            told(self, strip_without, strip=strip, n=4)
            told(self, strip_times, n=-3, strip=strip)
            told(self, strip_div, strip=strip, n=3)
            told(self, strip_mod, strip=strip, n=3)
        self.assertEqual(len([name for name in vars(strips) if name.startswith("strip_")]), 10)


if __name__ == "__main__":
    unittest.main()
