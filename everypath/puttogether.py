"""Summaries put together: rows of a function from those of the functions that it calls; rows tried."""

from everypath.deciding import decided
from everypath.errors import BadExpressions
from everypath.kinds import are_ranges, is_list, is_number, is_text, tupled
from everypath.plainsums import plain_sum
from everypath.programs import check_function
from everypath.refusals import BadNumber, BadRanges, BadRow, BadSummaries
from everypath.rows import conditions_of, cut_right_row, inputs_of, is_summary_row, put_right_row, sides_of_row
from everypath.rowtrails import CallerTrail, rows_behind
from everypath.runs import check_many, check_steps
from everypath.summaries import summed_up
from everypath.trails import unknown
from everypath.trees import is_expression


def put_row(row, expressions, first, ahead):
    check_row(row)
    if not is_dict_of_expressions(expressions):
        raise BadExpressions(expressions)
    check_number(first)
    check_number(ahead)
    sums = {name: plain_sum(tupled(expressions[name]), {}) for name in expressions}
    return put_right_row(tupled(row), sums, first, ahead)


def cut_row(row, steps):
    check_row(row)
    check_steps(steps)
    return cut_right_row(tupled(row), steps)


def together(program, f, summaries, steps, many):
    check_function(program, f)
    if not are_summaries(program, f, summaries):
        raise BadSummaries(summaries)
    check_steps(steps)
    check_many(many)
    rows = {g: tupled(summaries[g]) for g in functions_called(program, f)}
    found = rows_behind(CallerTrail(program, f, rows), steps, many)
    return None if found is None else sorted(found, key=sides_of_row)


def tried(program, f, ranges, steps, many):
    check_function(program, f)
    params = program.params[f]
    if not are_ranges(ranges) or len(ranges) != len(params):
        raise BadRanges(ranges)
    check_steps(steps)
    check_many(many)
    rows = summed_up(program, f, steps, many)
    if rows is None:
        return None
    sums = {param: (0, [(("name", unknown(at)), 1)]) for at, param in enumerate(params)}
    found = []
    for row in rows:
        put = put_right_row(row, sums, len(params), 0)
        found.append((put, decided([*ranges, *inputs_of(put)], conditions_of(put))))
    return found


def check_row(row):
    if not is_summary_row(row):
        raise BadRow(row)


def check_number(number):
    if not is_number(number):
        raise BadNumber(number)


def is_dict_of_expressions(thing):
    """Whether it is a dict from texts to expressions over texts."""
    return isinstance(thing, dict) and all([is_text(key) and is_expression(thing[key]) for key in thing])


def functions_called(program, f):
    """The functions that a function calls itself."""
    return [edge[2][2] for edge in program.edges[f] if edge[2][0] == "call"]


def are_summaries(program, f, thing):
    """Whether it is a dict that has a list of rows for each function that f calls."""
    if not isinstance(thing, dict):
        return False
    return all([is_list(thing.get(g)) and all([is_summary_row(row) for row in thing[g]])
                for g in functions_called(program, f)])
