"""Programs: functions that fit together."""

from everypath.errors import BadFunctions, BadName, BadPlace, BadProgram
from everypath.kinds import is_integer, is_list, is_list_of, is_text, tupled
from everypath.layouts import laid_out, starting
from everypath.trees import is_name, is_tree, leaves_of, statements_in, told_statements


class Program:
    """Functions, kept as tuples throughout, with what is made of them once: names, places, edges, loops, spots."""

    def __init__(self, functions):
        index = first_fault(functions)
        if index is not None:
            raise BadFunctions(index)
        self.trees = tupled(functions)
        self.params = {}
        self.names = {}
        self.places = {}
        self.edges = {}
        self.starts = {}
        self.loops = {}
        self.spots = {}
        for name, params, statements in self.trees:
            self.params[name] = params
            self.names[name] = [*params, *other_names(params, statements)]
            layout = laid_out(statements)
            self.places[name], self.edges[name], self.loops[name] = layout.places, layout.edges, layout.loops
            self.spots[name] = layout.spots
            self.starts[name] = starting(layout.places, layout.edges)

    def functions(self):
        return [(name, list(params), told_statements(statements)) for name, params, statements in self.trees]

    def __eq__(self, other):
        return isinstance(other, Program) and self.trees == other.trees


def names_of(program, f):
    check_function(program, f)
    return list(program.names[f])


def check_program(program):
    if not isinstance(program, Program):
        raise BadProgram(program)


def is_function_of(program, thing):
    """Whether it is the name of a function of the program."""
    return is_text(thing) and thing in program.params


def check_function(program, f):
    """The refusals of a program and the name of a function of it."""
    check_program(program)
    if not is_function_of(program, f):
        raise BadName(f)


def check_place(program, f, place):
    """The refusal of what is no place of this right function."""
    if not is_integer(place) or not 0 <= place < program.places[f]:
        raise BadPlace(place)


def first_fault(functions):
    """The index at which the list is no list of functions of a program, None if it is one."""
    if not is_list(functions):
        return 0
    sound = [is_function(thing) for thing in functions]
    wanted = params_wanted(functions, sound)
    before = set()
    for index, thing in enumerate(functions):
        if not sound[index] or thing[0] in before or not are_calls_right(thing, wanted):
            return index
        before.add(thing[0])
    if wanted.get("main") != 0:
        return len(functions)
    return None


def params_wanted(functions, sound):
    """For each name of a function how many params the first one so called has."""
    wanted = {}
    for thing, is_sound in zip(functions, sound):
        if is_sound and thing[0] not in wanted:
            wanted[thing[0]] = len(thing[1])
    return wanted


def is_function(thing):
    """Whether it is a function, whatever others there are."""
    if not is_list_of(thing, 3) or not is_name(thing[0]) or not is_tree(thing[2], "S", is_name):
        return False
    params, statements = thing[1], thing[2]
    if not is_list(params) or not all([is_name(param) for param in params]):
        return False
    if len(set(params)) != len(params):
        return False
    known = [*params, *other_names(params, statements)]
    return all([name in known for name in leaves_of(statements, "S", "r")])


def other_names(params, statements):
    """The names that are set and are no params, ascending."""
    return [name for name in sorted(set(leaves_of(statements, "S", "t"))) if name not in params]


def are_calls_right(function, wanted):
    """Whether each call in it is of a function, with as many expressions as that one has params."""
    calls = [statement for statement in statements_in(function[2]) if statement[0] == "call"]
    return all([wanted.get(call[2]) == len(call[3]) for call in calls])
