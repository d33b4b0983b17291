"""Plain expressions, and the facts one lot of which holds where a condition does."""

from everypath.errors import BadCondition, BadExpression
from everypath.kinds import tupled
from everypath.plainsums import plain_expression, plain_sum, written_sum
from everypath.trees import is_condition, is_expression, turned


def plain(expression):
    if not is_expression(expression):
        raise BadExpression(expression)
    return plain_expression(tupled(expression))


def alternatives(condition):
    if not is_condition(condition):
        raise BadCondition(condition)
    return facts_of(tupled(condition))


def facts_of(condition):
    """The alternatives of a right condition: lists of facts (e, f), e at most f, expressions plain."""
    word = condition[0]
    if word == "not":
        return facts_of(turned(condition[1]))
    if word == "or":
        return [*facts_of(condition[1]), *facts_of(condition[2])]
    if word == "and":
        others = facts_of(condition[2])
        return [[*one, *other] for one in facts_of(condition[1]) for other in others]
    one, other = plain_sum(condition[1], {}), plain_sum(condition[2], {})
    if word == "le":
        return [[at_most(0, one, other)]]
    if word == "lt":
        return [[at_most(1, one, other)]]
    if word == "eq":
        return [[at_most(0, one, other), at_most(0, other, one)]]
    return [[at_most(1, one, other)], [at_most(1, other, one)]]


def at_most(n, one, other):
    """The fact that one plus n is at most the other."""
    return written_sum((one[0] + n, one[1])), written_sum(other)
