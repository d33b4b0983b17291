"""Papers: for each function a zone at its entry, one at its exit, and zones at its places, parted by cuts."""

from everypath.closing import close
from everypath.cuts import are_cuts, is_row, row_of, with_sides
from everypath.errors import BadCuts, BadPaper, BadSides
from everypath.kinds import is_integer, is_list_of, is_text
from everypath.programs import check_function, check_program
from everypath.refusals import BadNumbers
from everypath.trees import among
from everypath.zonemath import is_zone_over
from everypath.zones import check_zone


def things_of(program, f):
    check_function(program, f)
    return all_things(program, f)


def sided(zone, cuts, sides):
    check_zone(zone)
    if not are_cuts(cuts, is_text if zone is None else among(zone[0])):
        raise BadCuts(cuts)
    if not is_row(sides, len(cuts)):
        raise BadSides(sides)
    return None if zone is None else close(with_sides(zone, cuts, sides))


def sides_of(cuts, numbers):
    if not are_cuts(cuts, is_text):
        raise BadCuts(cuts)
    if not are_numbers(numbers) or not all([cut[0] in numbers for cut in cuts]):
        raise BadNumbers(numbers)
    return row_of(cuts, numbers)


def is_paper(program, thing):
    check_program(program)
    return is_paper_of(program, thing)


def check_paper(program, paper):
    if not is_paper_of(program, paper):
        raise BadPaper(paper)


def is_paper_of(program, thing):
    """Whether it is a paper of this right program."""
    if not is_list_of(thing, 4) or not all([is_by_function(program, part) for part in thing]):
        return False
    cuts, entries, exits, cells = thing
    for f in program.params:
        if not are_cuts(cuts[f], among(program.names[f])):
            return False
        if not is_zone_over(entries[f], entry_things(program, f)):
            return False
        if not is_zone_over(exits[f], exit_things(program, f)):
            return False
        if not are_cells(program, f, len(cuts[f]), cells[f]):
            return False
    return True


def start_thing(param):
    """The thing that is what a param was when the frame began."""
    return param + "0"


def all_things(program, f):
    """The things of a function, ascending."""
    return sorted([*program.names[f], *[start_thing(param) for param in program.params[f]]])


def entry_things(program, f):
    """The things of the zone at its entry, ascending."""
    return sorted(program.params[f])


def exit_things(program, f):
    """The things of the zone at its exit, ascending."""
    return sorted(["=", *[start_thing(param) for param in program.params[f]]])


def are_numbers(thing):
    """Whether it is a dict from texts to integers."""
    return isinstance(thing, dict) and all([is_text(key) and is_integer(thing[key]) for key in thing])


def is_by_function(program, thing):
    """Whether it is a dict the keys of which are just the names of the functions."""
    if not isinstance(thing, dict) or len(thing) != len(program.params):
        return False
    return all([is_text(key) and key in program.params for key in thing])


def are_cells(program, f, many, thing):
    """Whether it is a list of the cells of each place of f, parted by so many cuts."""
    if not is_list_of(thing, program.places[f]) or not all([isinstance(part, dict) for part in thing]):
        return False
    things = all_things(program, f)
    for cells in thing:
        if not all([isinstance(row, tuple) and is_row(row, many) for row in cells]):
            return False
        if not all([cells[row] is not None and is_zone_over(cells[row], things) for row in cells]):
            return False
    return len(thing[1]) == 0
