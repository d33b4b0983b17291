"""Steps of zones: the most of expressions, and what sets, inputs and conditions make of a zone."""

from everypath.closing import close
from everypath.errors import (BadAction, BadCondition, BadExpression, BadExpressions, BadHigh, BadLow, BadThing,
                              BadZone)
from everypath.kinds import is_integer, is_text, tupled
from everypath.mosts import View
from everypath.trees import among, is_tree
from everypath.zonedeeds import draw, free, hold, step
from everypath.zonemath import is_thing
from everypath.zones import check_zone


def most(zone, expression):
    check_zone(zone)
    shut = close(zone)
    if shut is None:
        raise BadZone(zone)
    if not is_tree(expression, "e", names_let(zone)):
        raise BadExpression(expression)
    view = View(shut)
    return view.most(view.form(tupled(expression)))


def drawn(zone, expressions):
    check_zone(zone)
    if not are_expressions(zone, expressions):
        raise BadExpressions(expressions)
    return draw(zone, {thing: tupled(expressions[thing]) for thing in expressions})


def freed(zone, thing, low, high):
    check_zone(zone)
    if not is_thing(thing):
        raise BadThing(thing)
    if not is_integer(low):
        raise BadLow(low)
    if not is_integer(high) or high < low:
        raise BadHigh(high)
    return free(zone, thing, low, high)


def when(zone, condition):
    check_zone(zone)
    if not is_tree(condition, "c", names_let(zone)):
        raise BadCondition(condition)
    return hold(zone, tupled(condition))


def stepped(zone, action):
    check_zone(zone)
    if not is_tree(action, "a", names_let(zone)) or action[0] in ("call", "return"):
        raise BadAction(action)
    return step(zone, tupled(action))


def names_let(zone):
    """What tells whether a thing may stand as a name over this zone."""
    return is_text if zone is None else among(zone[0])


def are_expressions(zone, thing):
    """Whether it is a dict from texts other than "0" to expressions over the zone's things."""
    if not isinstance(thing, dict):
        return False
    lets = names_let(zone)
    return all([is_thing(key) and is_tree(thing[key], "e", lets) for key in thing])
