"""Systems of rows over integers in ranges: least values that meet them, or refutations."""

from everypath.kinds import are_integers, are_ranges, is_integer, is_list, is_list_of
from everypath.refusals import BadFactors, BadSystem
from everypath.rowjudge import is_refuted_by
from everypath.solving import least_sum, least_values, sum_at


def is_met(system, thing):
    check_system(system)
    ranges, rows = system
    if not are_integers(thing) or len(thing) != len(ranges):
        return False
    if not all([low <= worth <= high for (low, high), worth in zip(ranges, thing)]):
        return False
    return all([sum_at(factors, thing) <= bound for factors, bound in rows])


def is_none(system, thing):
    check_system(system)
    return is_refuted_by(system[0], system[1], thing)


def solved(system):
    check_system(system)
    return least_values(system[0], system[1])


def least_of(system, factors):
    check_system(system)
    check_factors(system, factors)
    return least_sum(system[0], system[1], factors)


def greatest_of(system, factors):
    check_system(system)
    check_factors(system, factors)
    told = least_sum(system[0], system[1], [-factor for factor in factors])
    if told[0] == "none":
        return told
    return "greatest", -told[1], told[2], told[3]


def is_system(thing):
    if not is_list_of(thing, 2) or not are_ranges(thing[0]) or not is_list(thing[1]):
        return False
    many = len(thing[0])
    return all([is_list_of(row, 2) and are_integers(row[0]) and len(row[0]) == many and is_integer(row[1])
                for row in thing[1]])


def check_system(system):
    if not is_system(system):
        raise BadSystem(system)


def check_factors(system, factors):
    if not are_integers(factors) or len(factors) != len(system[0]):
        raise BadFactors(factors)
