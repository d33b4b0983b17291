"""What expressions, conditions and actions make of zones, without any checks of what is handed over."""

from everypath.closing import close
from everypath.folds import added
from everypath.forms import strip_over
from everypath.mosts import View, high_end, name_terms
from everypath.rests import ANY, rest_met
from everypath.shipping import shipping_of
from everypath.trees import turned
from everypath.zonemath import join_zones, keep

NOTHING = (0, ())


def draw(zone, expressions):
    """The zone over the keys of expressions, of what these are of the values in the zone."""
    shut = close(zone)
    if shut is None:
        return None
    view = View(shut)
    things = sorted(expressions)
    forms = {thing: view.form(expressions[thing]) for thing in things}
    forms["0"] = NOTHING
    bounds = {}
    for u in forms:
        for v in forms:
            bound = None if u == v else view.most_between(forms[u], forms[v])
            if bound is not None:
                bounds[(u, v)] = bound
    return things, bounds, {thing: strip_over(expressions[thing], view.strips)[2:] for thing in things}


def free(zone, thing, low, high):
    """The zone with the thing anew, from low to high."""
    shut = close(zone)
    if shut is None:
        return None
    things, bounds, rests = keep(shut, [other for other in shut[0] if other != thing])
    bounds[(thing, "0")] = high
    bounds[("0", thing)] = -low
    rests[thing] = ANY
    return sorted([thing, *things]), bounds, rests


def step(zone, action):
    """What an action, but for a call or return, makes of the zone."""
    word = action[0]
    if word == "set":
        if zone is None:
            return None
        drawing = {thing: ("name", thing) for thing in zone[0]}
        drawing[action[1]] = action[2]
        return draw(zone, drawing)
    if word == "any":
        return free(zone, action[1], action[2], action[3])
    if word in ("when", "assume", "assert"):
        return hold(zone, action[1])
    return close(zone)


def hold(zone, condition):
    """The zone where the condition holds."""
    word = condition[0]
    if word == "not":
        return hold(zone, turned(condition[1]))
    one, other = condition[1], condition[2]
    if word == "and":
        return hold(hold(zone, one), other)
    if word == "or":
        return join_closed(hold(zone, one), hold(zone, other))
    if word == "ne":
        return join_closed(hold(zone, ("lt", one, other)), hold(zone, ("lt", other, one)))
    if word == "lt":
        return hold_at_most(zone, ("add", one, ("number", 1)), other)
    if word == "le":
        return hold_at_most(zone, one, other)
    return hold_equal(zone, one, other)


def join_closed(zone, other):
    return join_zones(close(zone), close(other))


def hold_equal(zone, one, other):
    """The zone where both are equal, with the rest of a name whose remainder is told."""
    found = hold_at_most(hold_at_most(zone, one, other), other, one)
    if found is None:
        return None
    for piece, number in ((one, other), (other, one)):
        if piece[0] == "mod" and piece[1][0] == "name" and number[0] == "number":
            return with_remainder(found, piece[1][1], piece[2], number[1])
    return found


def with_remainder(zone, thing, n, remainder):
    """The zone with the thing left with just those of its integers that leave remainder when divided by n."""
    things, bounds, rests = zone
    rest = rest_met(rests[thing], (n, remainder)) if 0 <= remainder < n else None
    if rest is None:
        return None
    return things, bounds, {**rests, thing: rest}


def hold_at_most(zone, one, other):
    """The zone where one is at most the other."""
    shut = close(zone)
    if shut is None:
        return None
    view = View(shut)
    form = added(view.form(other), view.form(one), -1)
    most = view.most(form)
    if most is not None and most < 0:
        return None
    sharpen(shut, form)
    return shut


def sharpen(zone, form):
    """Lessens the bounds of a closed zone by those that follow from the form, whose most is not below 0, being so."""
    end = high_end(form)
    terms = name_terms(form)
    if end is None or not terms:
        return
    bounds = {pair: zone[1][pair] for pair in zone[1]}
    nodes = ["0", *zone[0]]
    ends = difference_of(terms)
    found = by_difference(bounds, nodes, ends, end) if ends is not None else by_shipping(bounds, nodes, terms, end)
    for pair in found:
        zone[1][pair] = min(found[pair], bounds.get(pair, found[pair]))


def difference_of(terms):
    """The things (x, y), or "0", of which terms are the difference x - y; None if they are none."""
    ends = {1: "0", -1: "0"}
    for thing, factor in terms:
        if ends.get(factor) != "0":
            return None
        ends[factor] = thing
    return ends[1], ends[-1]


def by_difference(bounds, nodes, ends, end):
    """The bounds of pairs (u, v) if x - y is at least -end: u goes to y and x to v, as all else is no less."""
    x, y = ends
    found = {}
    for u in nodes:
        first = 0 if u == y else bounds.get((u, y))
        for v in nodes:
            second = 0 if v == x else bounds.get((x, v))
            if u != v and first is not None and second is not None:
                found[(u, v)] = end + first + second
    return found


def by_shipping(bounds, nodes, terms, end):
    """The bounds of pairs (u, v) if terms and end together are at least 0."""
    times = sorted(set([1, *[abs(factor) for _, factor in terms]]))
    shipped = shipping_of(bounds, terms, nodes)
    found = {}
    for u in nodes:
        for v in nodes:
            bound = None if u == v else least_by(shipped.copied(), u, v, times, end)
            if bound is not None:
                found[(u, v)] = bound
    return found


def least_by(shipping, u, v, times, end):
    """The least of the mosts of k (u - v) and what is shipped, divided by k, for each k of times; None for none."""
    found = []
    gone = 0
    for k in times:
        shipping.ship(u, v, k - gone)
        gone = k
        cost = shipping.cost()
        if cost is not None:
            found.append((end + cost) // k)
    return min(found, default=None)
