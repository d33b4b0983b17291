"""The small judge of refutations of systems, which knows nothing of how they are found."""

from everypath.kinds import is_integer, is_list, is_list_of, is_number
from everypath.multiples import common_divisor


def is_refuted_by(ranges, rows, thing):
    """Whether any object is a refutation of the system."""
    if not is_list(thing):
        return False
    waiting = [full_rows(ranges, rows)]
    for item in thing:
        if not waiting:
            return False
        standing = waiting.pop()
        if is_split(item, len(ranges)):
            _, at, bound = item
            waiting.append([*standing, unit_row(len(ranges), at, -1, -bound - 1)])
            waiting.append([*standing, unit_row(len(ranges), at, 1, bound)])
        elif not is_list_of(item, 2) or item[0] != "sums" or not are_sums(standing, item[1]):
            return False
    return not waiting


def full_rows(ranges, rows):
    """All rows of a system: its own, and for each unknown that it is at least low, and at most high."""
    found = [(list(factors), bound) for factors, bound in rows]
    for at, (low, high) in enumerate(ranges):
        found.append(unit_row(len(ranges), at, -1, -low))
        found.append(unit_row(len(ranges), at, 1, high))
    return found


def unit_row(many, at, factor, bound):
    factors = [0 for _ in range(many)]
    factors[at] = factor
    return factors, bound


def is_split(item, many):
    return is_list_of(item, 3) and item[0] == "split" and is_number(item[1]) and item[1] < many and is_integer(item[2])


def are_sums(standing, lists):
    """Whether they are lists of multipliers, each sum standing behind, of which just the last one lets nothing."""
    if not is_list(lists) or len(lists) == 0:
        return False
    rows = list(standing)
    for at, multipliers in enumerate(lists):
        if not is_list_of(multipliers, len(rows)) or not all([is_number(part) for part in multipliers]):
            return False
        factors, bound = sum_row(rows, multipliers)
        if any([factor != 0 for factor in factors]) == (at == len(lists) - 1):
            return False
        rows.append((factors, bound))
    return rows[-1][1] < 0


def sum_row(rows, multipliers):
    """The sum of rows, each times its multiplier, divided by the common divisor of its factors."""
    factors = [0 for _ in rows[0][0]] if rows else []
    bound = 0
    for (own, own_bound), times in zip(rows, multipliers):
        if times != 0:
            factors = [factor + times * part for factor, part in zip(factors, own)]
            bound += times * own_bound
    common = common_divisor(factors)
    if common > 1:
        return [factor // common for factor in factors], bound // common
    return factors, bound
