"""Names within trees put out: other expressions in their place, or 0 where nothing sets them."""

from everypath.folds import with_names
from everypath.programs import other_names
from everypath.trees import CONDITIONS, leaves_of

ZERO = ("number", 0)


def put_in(tree, kind, parts):
    """A tree of this kind with what the dict parts has in the place of each name that is read and that it has."""
    if kind == "e":
        return with_names(tree, parts)
    if kind == "c":
        inner = [put_in(part, "c" if part[0] in CONDITIONS else "e", parts) for part in tree[1:]]
        return (tree[0], *inner)
    if kind in "ES":
        return tuple([put_in(part, kind.lower(), parts) for part in tree])
    return put_in_statement(tree, parts)


def put_in_statement(statement, parts):
    """A statement with what parts has in the place of names, that within it included."""
    word = statement[0]
    if word == "set":
        return (word, statement[1], put_in(statement[2], "e", parts))
    if word == "call":
        return (word, statement[1], statement[2], put_in(statement[3], "E", parts))
    if word in ("assert", "assume"):
        return (word, put_in(statement[1], "c", parts))
    if word in ("print", "return"):
        return (word, put_in(statement[1], "e", parts))
    if word in ("if", "while"):
        return (word, put_in(statement[1], "c", parts), *[put_in(part, "S", parts) for part in statement[2:]])
    return statement


def function_of(f, params, statements):
    """The function with these statements, each name that is no param and that none of them sets being 0."""
    known = [*params, *other_names(params, statements)]
    zeros = {name: ZERO for name in leaves_of(statements, "S", "r") if name not in known}
    return f, params, put_in(statements, "S", zeros)
