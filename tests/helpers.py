"""What the tests share: trees written short, objects of all kinds, and the checks that every call must stand."""

import copy

from everypath.errors import BadSteps
from everypath.programs import Program


def num(n):
    return ("number", n)


def name(x):
    return ("name", x)


def add(e, f):
    return ("add", e, f)


def sub(e, f):
    return ("sub", e, f)


def times(n, e):
    return ("times", n, e)


def div(e, n):
    return ("div", e, n)


def mod(e, n):
    return ("mod", e, n)


def lt(e, f):
    return ("lt", e, f)


def le(e, f):
    return ("le", e, f)


def eq(e, f):
    return ("eq", e, f)


def ne(e, f):
    return ("ne", e, f)


def both(c, d):
    return ("and", c, d)


def either(c, d):
    return ("or", c, d)


def no(c):
    return ("not", c)


X, Y = name("x"), name("y")

# def half(a) { return a // 2; }
# def main() { x = any(0, 20); y = half(x); if y > 7 { y = y - x; } assert y + x != 9;
#              while x > 4 { x = x - 3; } return x; }
P_FUNCTIONS = [
    ("half", ["a"], [("return", div(name("a"), 2))]),
    ("main", [], [
        ("any", "x", 0, 20),
        ("call", "y", "half", [X]),
        ("if", lt(num(7), Y), [("set", "y", sub(Y, X))], []),
        ("assert", ne(add(Y, X), num(9))),
        ("while", lt(num(4), X), [("set", "x", sub(X, num(3)))]),
        ("return", X)])]


def p_program():
    return Program(P_FUNCTIONS)


def program_of(*statements):
    """The program of a main with these statements alone."""
    return Program([("main", [], list(statements))])


def nested(depth, kind):
    thing = "x"
    for _ in range(depth):
        thing = [thing] if kind == 0 else (thing,) if kind == 1 else {"x": thing}
    return thing


def any_objects():
    """Objects of all kinds, within one another to forty-five deep."""
    mixed = 0
    for at in range(45):
        mixed = [mixed] if at % 3 == 0 else (mixed, True) if at % 3 == 1 else {None: mixed, (1, "a"): [mixed]}
        if at > 8:
            mixed = [mixed] if at % 3 == 0 else (mixed,)
    return [0, 1, -1, 10 ** 40, True, False, "", "x", "0", "main", "and", None, [], (), {}, [[]], ((),), [None],
            (None, None), {"x": None}, {1: 2}, {(): ()}, {True: False}, len, any_objects, lambda: 0, p_program(),
            BadSteps(3), [p_program()], {"main": p_program()}, ("number",), ("number", True), ("name", 1),
            ["add", 1, 2], ("x", "y", "z"), [0, 1, 2, 3], (None, None, 1, 0, 0), ([], {}, {}, {}),
            (["x"], {}, {"y": (1, 0)}), nested(45, 0), nested(45, 1), nested(45, 2), mixed]


def listed(thing):
    """The thing with lists for all tuples, but for keys of dicts."""
    if isinstance(thing, (list, tuple)):
        return [listed(part) for part in thing]
    if isinstance(thing, dict):
        return {key: listed(part) for key, part in thing.items()}
    return thing


def tupled_all(thing):
    """The thing with tuples for all lists."""
    if isinstance(thing, (list, tuple)):
        return tuple(tupled_all(part) for part in thing)
    if isinstance(thing, dict):
        return {key: tupled_all(part) for key, part in thing.items()}
    return thing


def containers(thing):
    """All lists and dicts in it, as often as they stand there."""
    found = []
    waiting = [thing]
    while waiting:
        part = waiting.pop()
        if isinstance(part, (list, dict)):
            found.append(part)
        if isinstance(part, dict):
            waiting.extend(part.values())
        if isinstance(part, (list, tuple)):
            waiting.extend(part)
    return found


def shape(thing):
    """What it is, with the difference between lists and tuples, True and 1."""
    if isinstance(thing, (list, tuple)):
        return (type(thing).__name__, [shape(part) for part in thing])
    if isinstance(thing, dict):
        return ("dict", {key: shape(part) for key, part in thing.items()})
    return (type(thing).__name__, thing)


def told(case, function, **arguments):
    """What function tells of these arguments, after all is checked that holds of every call ([2.1])."""
    kept = copy.deepcopy(arguments)
    first = function(*arguments.values())
    again = function(**arguments)
    case.assertEqual(shape(first), shape(again))
    case.assertEqual([shape(part) for part in arguments.values()], [shape(part) for part in kept.values()])
    for other in (listed, tupled_all):
        case.assertEqual(shape(function(*[other(part) for part in arguments.values()])), shape(first))
    mine = containers(first) + containers(again) + containers(list(arguments.values()))
    case.assertEqual(len({id(part) for part in containers(first) + containers(again)}),
                     len(containers(first)) + len(containers(again)))
    case.assertEqual(len({id(part) for part in mine}) - len(containers(first)) - len(containers(again)),
                     len({id(part) for part in containers(list(arguments.values()))}))
    before = shape(first)
    for part in containers(again):
        part.clear()
    case.assertEqual(shape(first), before)
    case.assertEqual(shape(function(*arguments.values())), before)
    return first


def refused(case, error, thing, function, *arguments):
    """That function refuses these arguments with just this error, which keeps the very thing."""
    with case.assertRaises(error) as caught:
        function(*arguments)
    case.assertIs(type(caught.exception), error)
    kept = list(vars(caught.exception).values())
    case.assertEqual(len(kept), 1)
    case.assertIs(kept[0], thing)
