"""Programs written as texts."""

from everypath.numerals import digits_of
from everypath.programs import check_program

SIGNS = {"add": "+", "sub": "-", "div": "//", "mod": "mod", "lt": "<", "le": "<=", "eq": "==", "ne": "!="}
SUMS = ("add", "sub")
QUOTIENTS = ("div", "mod")


def written(program):
    check_program(program)
    texts = []
    # what is still to be written, the next thing last: texts, and pairs (tree, kind)
    waiting = [(function, "f") for function in program.trees][::-1]
    while waiting:
        part = waiting.pop()
        if isinstance(part, str):
            texts.append(part)
        else:
            waiting.extend(parts_written(part[0], part[1])[::-1])
    return " ".join(texts)


def parts_written(tree, kind):
    """The texts of a tree, and the trees within it that stand between them."""
    if kind == "f":
        return ["def", tree[0], "(", *parted_by_commas(list(tree[1])), ")", *block(tree[2])]
    if kind == "s":
        return statement_parts(tree)
    return condition_parts(tree) if kind == "c" else expression_parts(tree)


def statement_parts(statement):
    word = statement[0]
    if word in ("if", "while"):
        found = [word, (statement[1], "c"), *block(statement[2])]
        return found if word == "while" or not statement[3] else [*found, "else", *block(statement[3])]
    if word in ("assert", "assume"):
        return [word, (statement[1], "c"), ";"]
    if word in ("print", "return"):
        return [word, (statement[1], "e"), ";"]
    if word == "set":
        return [statement[1], "=", (statement[2], "e"), ";"]
    if word == "any":
        return [statement[1], "=", "any", "(", *integer(statement[2]), ",", *integer(statement[3]), ")", ";"]
    handed = parted_by_commas([(expression, "e") for expression in statement[3]])
    return [statement[1], "=", statement[2], "(", *handed, ")", ";"]


def block(statements):
    return ["{", *[(statement, "s") for statement in statements], "}"]


def parted_by_commas(parts):
    found = []
    for part in parts:
        found.extend([part] if not found else [",", part])
    return found


def integer(n):
    """The tokens of an integer."""
    return ["-", digits_of(-n)] if n < 0 else [digits_of(n)]


def expression_parts(expression):
    word = expression[0]
    if word == "number":
        return integer(expression[1])
    if word == "name":
        return [expression[1]]
    if word == "times":
        return [*integer(expression[1]), "*", *in_brackets(expression[2], "e", (*SUMS, *QUOTIENTS))]
    if word in SUMS:
        return [(expression[1], "e"), SIGNS[word], *in_brackets(expression[2], "e", SUMS)]
    return [*in_brackets(expression[1], "e", SUMS), SIGNS[word], digits_of(expression[2])]


def condition_parts(condition):
    word = condition[0]
    if word == "not":
        return [word, *in_brackets(condition[1], "c", ("and", "or"))]
    if word == "and":
        return [*in_brackets(condition[1], "c", ("or",)), word, *in_brackets(condition[2], "c", ("and", "or"))]
    if word == "or":
        return [(condition[1], "c"), word, *in_brackets(condition[2], "c", ("or",))]
    return [(condition[1], "e"), SIGNS[word], (condition[2], "e")]


def in_brackets(tree, kind, words):
    """A tree, in brackets if its word is one of these."""
    if tree[0] not in words:
        return [(tree, kind)]
    return ["(", (tree, kind), ")"] if kind == "e" else ["[", (tree, kind), "]"]
