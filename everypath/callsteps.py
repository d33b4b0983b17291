"""What calls and returns make of zones."""

from everypath.errors import BadEnd, BadExpression, BadExpressions, BadName, BadZone
from everypath.kinds import is_list, is_text, tupled
from everypath.papers import all_things, entry_things, exit_things, start_thing
from everypath.programs import check_function, is_function_of
from everypath.trees import are_expressions_over, is_expression_over
from everypath.zonedeeds import draw
from everypath.zonemath import is_zone_over, meet_zones, rename


def begun(program, f, zone):
    check_function(program, f)
    if not is_zone_over(zone, entry_things(program, f)):
        raise BadZone(zone)
    return begin(program, f, zone)


def returned(program, f, zone, expression):
    check_function(program, f)
    check_zone_of(program, f, zone)
    if not is_expression_over(expression, program.names[f]):
        raise BadExpression(expression)
    return end_with(program, f, zone, tupled(expression))


def called(program, f, zone, g, expressions):
    check_function(program, f)
    check_zone_of(program, f, zone)
    check_call(program, f, g, expressions)
    return hand_over(program, zone, g, tupled(expressions))


def come_back(program, f, zone, x, g, expressions, end):
    check_function(program, f)
    check_zone_of(program, f, zone)
    if not is_text(x) or x not in program.names[f]:
        raise BadName(x)
    check_call(program, f, g, expressions)
    if not is_zone_over(end, exit_things(program, g)):
        raise BadEnd(end)
    return go_on(program, zone, ("call", x, g, tupled(expressions)), end)


def check_zone_of(program, f, zone):
    if not is_zone_over(zone, all_things(program, f)):
        raise BadZone(zone)


def check_call(program, f, g, expressions):
    """The refusals of a function that is called and of what is handed over to it."""
    if not is_function_of(program, g):
        raise BadName(g)
    if not is_list(expressions) or len(expressions) != len(program.params[g]):
        raise BadExpressions(expressions)
    if not are_expressions_over(expressions, program.names[f]):
        raise BadExpressions(expressions)


def begin(program, f, zone):
    """The zone over all things of f in which a frame begins whose params are in the zone."""
    drawing = {name: ("number", 0) for name in program.names[f]}
    for param in program.params[f]:
        drawing[param] = ("name", param)
        drawing[start_thing(param)] = ("name", param)
    return draw(zone, drawing)


def end_with(program, f, zone, expression):
    """The zone of what f was called with and of what it returns."""
    drawing = {start_thing(param): ("name", start_thing(param)) for param in program.params[f]}
    drawing["="] = expression
    return draw(zone, drawing)


def hand_over(program, zone, g, expressions):
    """The zone over the params of g, of what is handed over."""
    return draw(zone, dict(zip(program.params[g], expressions)))


def go_on(program, zone, call, end):
    """The zone behind a call, end being the zone at the exit of the function that is called."""
    if zone is None or end is None:
        return None
    _, x, g, expressions = call
    drawing = {thing: ("name", thing) for thing in zone[0]}
    called_as = {"=": "="}
    for param, expression in zip(program.params[g], expressions):
        drawing[param + "2"] = expression
        called_as[start_thing(param)] = param + "2"
    both = meet_zones(draw(zone, drawing), rename(end, called_as))
    behind = {thing: ("name", thing) for thing in zone[0]}
    behind[x] = ("name", "=")
    return draw(both, behind)
