"""Rows of summaries: what they are, and how they are put in where a function is called."""

from everypath.evaluating import holds
from everypath.kinds import is_integer, is_list, is_list_of, is_number, is_text
from everypath.plainsums import plain_condition, plain_sum, written_sum
from everypath.trails import unknown
from everypath.trees import is_condition, is_expression, names_read

GOING = ("going",)


def is_summary_row(thing):
    """Whether it is a triple of a list of events, a number and a why."""
    if not is_list_of(thing, 3) or not is_list(thing[0]) or not is_number(thing[1]):
        return False
    return all([is_event(event) for event in thing[0]]) and is_row_why(thing[2])


def is_event(thing):
    if not is_list(thing) or len(thing) < 3 or not is_number(thing[1]):
        return False
    if thing[0] == "input":
        return len(thing) == 4 and is_integer(thing[2]) and is_integer(thing[3])
    if thing[0] == "side":
        return len(thing) == 4 and is_integer(thing[2]) and thing[2] in (0, 1) and is_condition(thing[3])
    return len(thing) == 3 and thing[0] == "print" and is_expression(thing[2])


def is_row_why(thing):
    """Whether it is a why of a row."""
    if is_list_of(thing, 3):
        return thing[0] in ("breaks", "barred") and is_text(thing[1]) and is_number(thing[2])
    if is_list_of(thing, 2):
        return thing[0] == "ends" and is_expression(thing[1])
    return is_list_of(thing, 1) and thing[0] == "going"


def inputs_of(row):
    """The ranges of the inputs of a row."""
    return [(event[2], event[3]) for event in row[0] if event[0] == "input"]


def conditions_of(row):
    return [event[3] for event in row[0] if event[0] == "side"]


def sides_of_row(row):
    return [event[2] for event in row[0] if event[0] == "side"]


def may_hold(condition):
    """Whether it holds, or a name stands in it."""
    return len(names_read(condition, "c")) > 0 or holds(condition, {})


def row_may_hold(row):
    """Whether it has no condition without names that does not hold."""
    return all([may_hold(condition) for condition in conditions_of(row)])


def cut_right_row(row, steps):
    """A right row, all of it tuples, as far as it goes in so many steps."""
    events, taken, why = row
    if taken < steps:
        return list(events), taken, why
    return [event for event in events if event[1] < steps], steps, GOING


def put_right_row(row, sums, first, ahead):
    """A right row, all of it tuples, with sums in the place of names, its own inputs being those from first on."""
    events, taken, why = row
    moved = {unknown(at): (0, [(("name", unknown(at + first)), 1)]) for at in range(len(inputs_of(row)))}
    here = {**sums, **moved}
    put = [put_event(event, here, ahead) for event in events]
    if why[0] == "ends":
        why = ("ends", written_sum(plain_sum(why[1], here)))
    return put, taken + ahead, why


def put_event(event, sums, ahead):
    """An event with sums in the place of names, and so many steps more ahead of it."""
    word, steps = event[0], event[1] + ahead
    if word == "input":
        return (word, steps, event[2], event[3])
    if word == "side":
        return (word, steps, event[2], plain_condition(event[3], sums))
    return (word, steps, written_sum(plain_sum(event[2], sums)))


def unlike_rows(rows):
    """The rows, of equal ones the first one alone."""
    found = {}
    for row in rows:
        found.setdefault(flat(row), row)
    return list(found.values())


def flat(thing):
    """A tuple of no tuples that tells what nested lists of integers and texts hold."""
    found = []
    waiting = [thing]
    while waiting:
        part = waiting.pop()
        if is_list(part):
            found.extend([None, len(part)])
            waiting.extend(list(part)[::-1])
        else:
            found.append(part)
    return tuple(found)
