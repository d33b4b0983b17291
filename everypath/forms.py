"""Forms: expressions as an integer and multiples of pieces; and the strips of what they come to."""

from everypath.errors import BadExpression, BadStrips
from everypath.folds import sum_of, top_sum
from everypath.kinds import is_text, tupled
from everypath.stripmath import alone, divided, multiple, remaining, total
from everypath.strips import is_strip
from everypath.trees import is_expression, names_read


def form_of(expression):
    check_expression(expression)
    constant, terms = top_sum(tupled(expression))
    return constant, [(factor, piece) for piece, factor in terms]


def strip_of(expression, strips):
    check_expression(expression)
    if not are_strips(strips):
        raise BadStrips(strips)
    names = names_read(expression, "e")
    if not all([name in strips for name in names]):
        raise BadStrips(strips)
    if any([strips[name] is None for name in names]):
        return None
    return strip_over(tupled(expression), strips)


def strip_over(expression, strips):
    """The strip of a right expression, none of the strips of its names being empty."""
    return sum_strip(sum_with_strips(expression, strips))


def sum_with_strips(expression, strips):
    """Its sum, each piece being paired with its strip."""
    def of_name(name):
        return 0, [((("name", name), tuple(strips[name])), 1)]

    def of_quotient(part, inner):
        strip = sum_strip(inner)
        strip = divided(strip, part[2]) if part[0] == "div" else remaining(strip, part[2])
        return 0, [((part, strip), 1)]

    return sum_of(expression, of_name, of_quotient)


def sum_strip(form):
    """The strip of a sum whose pieces are paired with their strips."""
    constant, terms = form
    strip = alone(constant)
    for piece, factor in terms:
        strip = total(strip, multiple(factor, piece[1]))
    return strip


def check_expression(expression):
    if not is_expression(expression):
        raise BadExpression(expression)


def are_strips(thing):
    """Whether it is a dict from texts to strips."""
    return isinstance(thing, dict) and all([is_text(key) and is_strip(thing[key]) for key in thing])
