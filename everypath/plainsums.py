"""Plain expressions: sums whose pieces are plain, and how they are written."""

from everypath.folds import sum_of


def plain_sum(expression, sums):
    """Its sum with plain pieces, each name being the sum that the dict sums has for it, or itself if it has none."""
    def of_name(name):
        if name in sums:
            return sums[name]
        return 0, [(("name", name), 1)]

    return sum_of(expression, of_name, quotient)


def quotient(part, inner):
    """The sum of a div or mod of what has a plain sum; of a number alone it is worked out."""
    word, _, n = part
    constant, terms = inner
    if terms:
        return 0, [((word, written_sum(inner), n), 1)]
    return (constant // n if word == "div" else constant % n), []


def written_sum(form):
    """The expression of a sum: its constant, unless it is 0 and there are terms, and its terms, added from the left."""
    constant, terms = form
    parts = [piece if factor == 1 else ("times", factor, piece) for piece, factor in terms]
    if constant != 0 or not parts:
        parts = [("number", constant), *parts]
    whole = parts[0]
    for part in parts[1:]:
        whole = ("add", whole, part)
    return whole


def plain_expression(expression):
    return written_sum(plain_sum(expression, {}))


def plain_condition(condition, sums):
    """The condition with plain expressions, each name being what the dict sums has for it."""
    word = condition[0]
    if word == "not":
        return (word, plain_condition(condition[1], sums))
    if word in ("and", "or"):
        return (word, plain_condition(condition[1], sums), plain_condition(condition[2], sums))
    return (word, written_sum(plain_sum(condition[1], sums)), written_sum(plain_sum(condition[2], sums)))
