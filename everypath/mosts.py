"""The most that expressions come to in a zone that is closed."""

from everypath.folds import added, top_sum
from everypath.forms import strip_over
from everypath.shipping import cost_of
from everypath.zonemath import strip_from


class View:
    """A closed zone with the strips of its things.

    A form here is a sum whose pieces are paired with their strips, names with None: pairs ((piece, strip), factor).
    """

    def __init__(self, zone):
        self.zone = zone
        self.bounds = zone[1]
        self.strips = {thing: strip_from(zone, thing) for thing in zone[0]}

    def form(self, expression):
        constant, terms = top_sum(expression)
        return constant, [((piece, self.strip_beside(piece)), factor) for piece, factor in terms]

    def strip_beside(self, piece):
        return None if piece[0] == "name" else strip_over(piece, self.strips)

    def most(self, form):
        """The most of a form, None if there is none."""
        end = high_end(form)
        cost = None if end is None else cost_of(self.bounds, name_terms(form))
        return None if cost is None else end + cost

    def most_between(self, form, other):
        """The most of form less other."""
        one, two = moved_name(form), moved_name(other)
        if one is None or two is None:
            return self.most(added(form, other, -1))
        if one[1] == two[1]:
            return one[0] - two[0]
        bound = self.bounds.get((one[1], two[1]))
        return None if bound is None else one[0] - two[0] + bound


def high_end(form):
    """The constant and the high ends of all terms but names; None if one has none."""
    end = form[0]
    for (_, strip), factor in form[1]:
        if strip is not None:
            part = strip[1] if factor > 0 else strip[0]
            if part is None:
                return None
            end += factor * part
    return end


def name_terms(form):
    """The pairs (thing, factor) of the terms whose pieces are names."""
    return [(piece[1], factor) for (piece, strip), factor in form[1] if strip is None]


def moved_name(form):
    """(constant, thing) if the form is a constant and a thing, or "0", alone; else None."""
    constant, terms = form
    if not terms:
        return constant, "0"
    (piece, strip), factor = terms[0]
    if len(terms) > 1 or strip is not None or factor != 1:
        return None
    return constant, piece[1]
