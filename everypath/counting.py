"""Counting: how many lists of integers meet conditions, unknowns that do not hang together being counted apart.

A FRACTION is a pair of integers without a common divisor, the second one above 0.
"""

from math import gcd

from everypath.choices import clauses_of, facts_in, is_true
from everypath.deciding import check_conditions, check_ranges, grounds_of
from everypath.lots import Lot


def count(ranges, conditions):
    check_ranges(ranges)
    check_conditions(ranges, conditions)
    grounds = grounds_of(ranges, conditions)
    clauses = [clause for tree in grounds.trees for clause in clauses_of(tree)]
    return count_clauses(grounds.table, clauses)


def count_clauses(table, clauses):
    """How many lists of integers of all unknowns of a table meet these trees."""
    lots = {column: [column] for column in range(len(table.ranges))}
    reads = [columns_read(table, tree) for tree in clauses]
    for tree, columns in zip(clauses, reads):
        if not columns and not is_true(tree, table, table.worths([low for low, _ in table.ranges])):
            return 0
        put_together(lots, columns)
    many = 1
    for column in lots:
        if lots[column][0] == column and many > 0:
            trees = [tree for tree, columns in zip(clauses, reads) if columns and columns[0] in lots[column]]
            many *= Lot(table, lots[column], trees).count_from(0)
    return many


def columns_read(table, tree):
    """The columns of the unknowns on which it hangs whether a tree holds."""
    return table.unknowns_among([column for fact in facts_in(tree) for column in table.rows[fact][0]])


def put_together(lots, columns):
    """Makes one lot, ascending, of those of these columns."""
    for column in columns[1:]:
        if lots[column] != lots[columns[0]]:
            merged = sorted([*lots[columns[0]], *lots[column]])
            for each in merged:
                lots[each] = merged


def fraction(n, d):
    """n over d in lowest terms, d being above 0."""
    common = gcd(n, d)
    return n // common, d // common


def added_chances(chances):
    """The sum of fractions."""
    n, d = 0, 1
    for more, by in chances:
        n, d = fraction(n * by + more * d, d * by)
    return n, d


def chance_by(grounds):
    """The chance that the conditions of some grounds are met by integers drawn from their ranges."""
    clauses = [clause for tree in grounds.trees for clause in clauses_of(tree)]
    width = 1
    for low, high in grounds.table.ranges:
        width *= high - low + 1
    return fraction(count_clauses(grounds.table, clauses), width)
