"""Conditions over unknowns in ranges: the least inputs that meet them, or refutations."""

from everypath.choices import alternatives_of, facts_left, has_choice, many_alternatives
from everypath.facts import FactTable
from everypath.grounds import Grounds, refutation_by
from everypath.kinds import are_ranges, is_list, is_list_of, is_number, tupled
from everypath.plainsums import plain_expression
from everypath.pursuits import Pursuit
from everypath.refusals import BadConditions, BadFacts, BadRanges
from everypath.rowjudge import is_refuted_by
from everypath.trails import unknown
from everypath.trees import is_condition_over, is_expression_over


def system_of(ranges, facts):
    check_ranges(ranges)
    if not are_facts(facts, unknowns(ranges)):
        raise BadFacts(facts)
    table = FactTable(ranges)
    numbers = []
    for one, other in tupled(facts):
        numbers.append(table.bring((plain_expression(one), plain_expression(other))))
    return table.system_by(numbers)


def decided(ranges, conditions):
    check_ranges(ranges)
    check_conditions(ranges, conditions)
    grounds = grounds_of(ranges, conditions)
    pursuit = Pursuit(grounds.table, grounds.trees, list(range(len(grounds.trees))), {})
    numbers = pursuit.least()
    if numbers is None:
        return "never", refutation_by(pursuit)
    return "met", numbers


def is_refutation(ranges, conditions, thing):
    check_ranges(ranges)
    check_conditions(ranges, conditions)
    grounds = grounds_of(ranges, conditions)
    return refutes(grounds.table, grounds.trees, {}, thing)


def grounds_of(ranges, conditions):
    """The grounds of these conditions."""
    grounds = Grounds(ranges)
    for condition in tupled(conditions):
        grounds.add_condition(condition)
    return grounds


def refutes(table, trees, taken, thing):
    """Whether it refutes the conditions of these trees, with the facts taken for some of them by their indices."""
    if is_list_of(thing, 2) and thing[0] == "rows":
        ranges, rows = table.system_by(facts_left(trees, taken))
        return is_refuted_by(ranges, rows, thing[1])
    if not is_list_of(thing, 3) or thing[0] != "or" or not is_number(thing[1]) or thing[1] >= len(trees):
        return False
    _, index, others = thing
    if index in taken or not has_choice(trees[index]) or not is_list_of(others, many_alternatives(trees[index])):
        return False
    options = [facts for facts, _ in alternatives_of(trees[index])]
    return all([refutes(table, trees, {**taken, index: facts}, other) for facts, other in zip(options, others)])


def unknowns(ranges):
    """The names of the unknowns with these ranges."""
    return {unknown(at): True for at in range(len(ranges))}


def are_facts(thing, names):
    """Whether it is a list of pairs of expressions over these names."""
    if not is_list(thing) or not all([is_list_of(fact, 2) for fact in thing]):
        return False
    return all([is_expression_over(part, names) for fact in thing for part in fact])


def check_ranges(ranges):
    if not are_ranges(ranges):
        raise BadRanges(ranges)


def check_conditions(ranges, conditions):
    names = unknowns(ranges)
    if not is_list(conditions) or not all([is_condition_over(condition, names) for condition in conditions]):
        raise BadConditions(conditions)
