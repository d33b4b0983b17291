"""Expressions worked out from within, without recursion, since they may be deep.

A SUM here is a pair (constant, terms), terms a list of pairs (piece, factor), the pieces unlike and ascending, no
factor 0. What pieces are is up to the caller: anything that can be compared.
"""

from everypath.trees import parts_of


def put_together(pairs):
    """The terms that pairs (piece, factor) come to."""
    merged = []
    for piece, factor in sorted(pairs, key=lambda pair: pair[0]):
        if merged and merged[-1][0] == piece:
            merged[-1][1] += factor
        else:
            merged.append([piece, factor])
    return [(piece, factor) for piece, factor in merged if factor != 0]


def inner_first(expression):
    """The expressions in it, itself last, each behind those within it, from the left."""
    found = []
    waiting = [(expression, "e")]
    while waiting:
        part, kind = waiting.pop()
        if kind == "e":
            found.append(part)
            waiting.extend(parts_of(part, "e"))
    return found[::-1]


def sum_of(expression, of_name, of_quotient):
    """What it comes to, if of_name tells the sum of a name and of_quotient that of a div or mod (part, inner sum)."""
    worth = []
    for part in inner_first(expression):
        word = part[0]
        if word == "number":
            worth.append((part[1], []))
        elif word == "name":
            constant, terms = of_name(part[1])
            worth.append((constant, list(terms)))
        elif word == "times":
            worth.append(multiplied(worth.pop(), part[1]))
        elif word == "div" or word == "mod":
            constant, pairs = worth.pop()
            constant, terms = of_quotient(part, (constant, put_together(pairs)))
            worth.append((constant, list(terms)))
        else:
            second = worth.pop()
            if word == "sub":
                second = multiplied(second, -1)
            worth.append(appended(worth.pop(), second))
    constant, pairs = worth.pop()
    return constant, put_together(pairs)


def multiplied(form, n):
    return n * form[0], [(piece, n * factor) for piece, factor in form[1]]


def appended(form, other):
    """Both added up; form is not used any more, so its list may grow."""
    form[1].extend(other[1])
    return form[0] + other[0], form[1]


def added(form, other, n):
    """The sum of form and n times other."""
    constant, pairs = multiplied(other, n)
    return form[0] + constant, put_together([*form[1], *pairs])


def top_sum(expression):
    """The sum of an expression in which what stands within a div or mod stays as it is."""
    constant = 0
    pairs = []
    waiting = [(expression, 1)]
    while waiting:
        part, times = waiting.pop()
        word = part[0]
        if word == "number":
            constant += times * part[1]
        elif word == "times":
            waiting.append((part[2], times * part[1]))
        elif word == "add" or word == "sub":
            waiting.append((part[1], times))
            waiting.append((part[2], times if word == "add" else -times))
        else:
            pairs.append((part, times))
    return constant, put_together(pairs)


def with_names(expression, parts):
    """The expression with what the dict parts has in the place of each name that it has, in one stroke."""
    made = []
    for part in inner_first(expression):
        word = part[0]
        if word == "number":
            made.append(part)
        elif word == "name":
            made.append(parts.get(part[1], part))
        elif word == "times":
            made.append((word, part[1], made.pop()))
        elif word in ("div", "mod"):
            made.append((word, made.pop(), part[2]))
        else:
            second = made.pop()
            made.append((word, made.pop(), second))
    return made[0]
