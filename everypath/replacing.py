"""Expressions with other expressions in the place of names."""

from everypath.folds import inner_first


def with_names(expression, parts):
    """The expression with what the dict parts has in the place of each name that it has, in one stroke."""
    made = []
    for part in inner_first(expression):
        word = part[0]
        if word == "number":
            made.append(part)
        elif word == "name":
            made.append(parts.get(part[1], part))
        elif word == "times":
            made.append((word, part[1], made.pop()))
        elif word in ("div", "mod"):
            made.append((word, made.pop(), part[2]))
        else:
            second = made.pop()
            made.append((word, made.pop(), second))
    return made[0]
