"""Trees of the language: expressions, conditions, statements and the actions of edges.

A KIND is a letter: e an expression, c a condition, s a statement, a an action, E a list of expressions,
S a list of statements; of what is no tree: n an integer, d one from 1 on, r a name that is read, t one that is
set, f one that is called. A SHAPE is the kinds of the parts of a tree behind its word.
"""

from everypath.kinds import is_integer, is_list, is_text

WORDS = ("def", "if", "else", "while", "assert", "assume", "return", "print", "any", "and", "or", "not", "mod")
LETTERS = "abcdefghijklmnopqrstuvwxyz"
LONGEST_NAME = 8
EXPRESSIONS = {"number": "n", "name": "r", "add": "ee", "sub": "ee", "times": "ne", "div": "ed", "mod": "ed"}
CONDITIONS = {"lt": "ee", "le": "ee", "eq": "ee", "ne": "ee", "and": "cc", "or": "cc", "not": "c"}
STATEMENTS = {"set": "te", "any": "tnn", "call": "tfE", "if": "cSS", "while": "cS", "assert": "c", "assume": "c",
              "print": "e", "return": "e"}
ACTIONS = {"set": "te", "any": "tnn", "call": "tfE", "assert": "c", "assume": "c", "print": "e", "return": "e",
           "when": "c", "skip": ""}
PLAIN_KINDS = "ndrtf"
TURNED_WORDS = {"eq": "ne", "ne": "eq"}


def is_name(thing):
    """Whether it is a NAME of the language."""
    if not is_text(thing) or not 1 <= len(thing) <= LONGEST_NAME or thing in WORDS:
        return False
    return all([letter in LETTERS for letter in thing])


def shape_of(kind, word):
    """The shape of the trees of this kind with this word, None if there are none."""
    if kind == "e":
        return EXPRESSIONS.get(word)
    if kind == "c":
        return CONDITIONS.get(word)
    if kind == "s":
        return STATEMENTS.get(word)
    return ACTIONS.get(word)


def parts_of(thing, kind):
    """The pairs (part, kind) right within a tree or a list of trees; None if it is none, as far as its top tells."""
    if not is_list(thing):
        return None
    if kind == "E":
        return [(part, "e") for part in thing]
    if kind == "S":
        return [(part, "s") for part in thing]
    if len(thing) == 0 or not is_text(thing[0]):
        return None
    shape = shape_of(kind, thing[0])
    if shape is None or len(thing) != len(shape) + 1:
        return None
    return list(zip(thing[1:], shape))


def is_leaf(thing, kind, lets):
    """Whether it is of this kind, which is none of trees; lets tells which names may stand."""
    if kind == "n":
        return is_integer(thing)
    if kind == "d":
        return is_integer(thing) and thing >= 1
    return lets(thing)


def is_tree(thing, kind, lets):
    """Whether it is a tree of this kind with names that lets(name) takes."""
    waiting = [(thing, kind)]
    while waiting:
        part, sort = waiting.pop()
        if sort in PLAIN_KINDS:
            if not is_leaf(part, sort, lets):
                return False
        else:
            inner = parts_of(part, sort)
            if inner is None:
                return False
            waiting.extend(inner)
            if sort in "sa" and part[0] == "any" and not is_drawing(part):
                return False
    return True


def is_drawing(statement):
    """Whether the integers of an any are a range."""
    low, high = statement[2], statement[3]
    return is_integer(low) and is_integer(high) and low <= high


def is_expression(thing):
    """Whether it is an expression over any texts."""
    return is_tree(thing, "e", is_text)


def is_condition(thing):
    """Whether it is a condition over any texts."""
    return is_tree(thing, "c", is_text)


def among(names):
    """What tells whether a thing is one of these names."""
    return lambda thing: is_text(thing) and thing in names


def is_expression_over(thing, names):
    return is_tree(thing, "e", among(names))


def is_condition_over(thing, names):
    return is_tree(thing, "c", among(names))


def are_expressions_over(thing, names):
    return is_tree(thing, "E", among(names))


def leaves_of(tree, kind, sort):
    """The leaves of one sort of a tree or a list of trees, from the left."""
    found = []
    waiting = [(tree, kind)]
    while waiting:
        part, here = waiting.pop()
        if here == sort:
            found.append(part)
        elif here not in PLAIN_KINDS:
            waiting.extend(parts_of(part, here)[::-1])
    return found


def names_read(tree, kind):
    """The names that are read in it, each once, ascending."""
    return sorted(set(leaves_of(tree, kind, "r")))


def statements_in(statements):
    """All statements of a list, with those within others, in the order of the text."""
    found = []
    waiting = [(statements, "S")]
    while waiting:
        part, kind = waiting.pop()
        if kind == "s":
            found.append(part)
        if kind in "sS":
            waiting.extend(parts_of(part, kind)[::-1])
    return found


def told_statement(statement):
    """It as it is told: trees as tuples, lists within as lists, each of them new."""
    word = statement[0]
    if word == "call":
        return (word, statement[1], statement[2], list(statement[3]))
    if word == "if":
        return (word, statement[1], told_statements(statement[2]), told_statements(statement[3]))
    if word == "while":
        return (word, statement[1], told_statements(statement[2]))
    return statement


def told_statements(statements):
    return [told_statement(statement) for statement in statements]


def turned(condition):
    """A condition with no not at its top that holds just where this one does not, nots being left right within."""
    word = condition[0]
    if word == "not":
        return condition[1]
    if word == "and":
        return ("or", ("not", condition[1]), ("not", condition[2]))
    if word == "or":
        return ("and", ("not", condition[1]), ("not", condition[2]))
    if word == "lt":
        return ("le", condition[2], condition[1])
    if word == "le":
        return ("lt", condition[2], condition[1])
    return (TURNED_WORDS[word], condition[1], condition[2])
