"""The least sums of bounds by which multiples of things are bounded: units shipped from thing to thing.

A unit that goes from u to v costs the bound of (u, v); a x + b y + .. ships a units from x, b from y .. to "0", back
where they are negative. Each shipment is made along a cheapest way, taking back what was shipped before where that
is cheaper: so all of it together is cheapest at any time.
"""


class Prices:
    """What a unit costs from thing to thing of these nodes: its bound in a closed zone.

    A pair without a bound costs more than any way by bounds, and as much as the cheapest way that has one such pair:
    so no way through other things is ever cheaper than straight on, and what is shipped need not know of those.
    """

    def __init__(self, bounds, nodes):
        self.bounds = bounds
        greatest = max([abs(bounds[pair]) for pair in bounds], default=0)
        lacking = 8 * (len(bounds) + 2) * (greatest + 1)
        from_there = {u: 0 for u in nodes}
        to_there = {u: 0 for u in nodes}
        for u, v in bounds:
            from_there[u] = min(bounds[(u, v)], from_there.get(u, 0))
            to_there[v] = min(bounds[(u, v)], to_there.get(v, 0))
        self.straight = {}
        for u in nodes:
            for v in nodes:
                if u != v:
                    self.straight[(u, v)] = bounds.get((u, v), lacking + from_there[u] + to_there[v])


class Shipping:
    """How many units are shipped from thing to thing, at these prices."""

    def __init__(self, prices, flow):
        self.prices = prices
        self.flow = flow

    def copied(self):
        return Shipping(self.prices, {pair: self.flow[pair] for pair in self.flow})

    def ship(self, u, v, units):
        """Ships so many units from u to v."""
        while units > 0:
            way = self.cheapest_way(u, v)
            back = [self.flow[(to, at)] for at, to in way if (to, at) in self.flow]
            part = min([units, *back])
            for at, to in way:
                self.shift(at, to, part)
            units -= part

    def shift(self, u, v, units):
        if (v, u) not in self.flow:
            self.flow[(u, v)] = self.flow.get((u, v), 0) + units
        elif self.flow[(v, u)] > units:
            self.flow[(v, u)] -= units
        else:
            del self.flow[(v, u)]

    def cheapest_way(self, u, v):
        """The pairs along a cheapest way from u to v, over what is shipped from or to so far.

        Straight on is cheapest but where something is taken back, so only behind that ways are looked at anew.
        """
        nodes = self.stops(u, v)
        straight = self.prices.straight
        costs = {node: 0 if node == u else straight[(u, node)] for node in nodes}
        before = {node: u for node in nodes}
        changed = True
        while changed:
            changed = False
            for to, at in self.flow:
                cost = costs[at] - straight[(to, at)]
                if cost < costs[to]:
                    changed = True
                    before[to] = at
                    costs[to] = cost
                    for node in nodes:
                        if node != to and cost + straight[(to, node)] < costs[node]:
                            before[node] = to
                            costs[node] = cost + straight[(to, node)]
        way = []
        while v != u:
            way.append((before[v], v))
            v = before[v]
        return way

    def stops(self, u, v):
        found = {u: True, v: True}
        for pair in self.flow:
            found[pair[0]] = True
            found[pair[1]] = True
        return list(found)

    def cost(self):
        """What all of it costs, None if a pair without a bound is needed."""
        bounds = self.prices.bounds
        if not all([pair in bounds for pair in self.flow]):
            return None
        return sum([self.flow[pair] * bounds[pair] for pair in self.flow])


def shipping_of(bounds, terms, nodes):
    """The shipping of terms, pairs (thing, factor), among these nodes."""
    shipping = Shipping(Prices(bounds, nodes), {})
    for thing, factor in terms:
        if factor > 0:
            shipping.ship(thing, "0", factor)
        else:
            shipping.ship("0", thing, -factor)
    return shipping


def cost_of(bounds, terms):
    """The cost of terms, pairs (thing, factor); None if there is none."""
    sources, sinks = balanced(terms)
    if len(sources) == 2 and len(sinks) == 2:
        return cost_of_four(bounds, sources, sinks)
    if len(sources) > 1 and len(sinks) > 1:
        return shipping_of(bounds, terms, ["0", *[thing for thing, _ in terms]]).cost()
    total = 0
    for at, units in sources:
        for to, asked in sinks:
            if (at, to) not in bounds:
                return None
            total += min(units, asked) * bounds[(at, to)]
    return total


def cost_of_four(bounds, sources, sinks):
    """The cost from two things to two others: with as much as can be, or as little, from the first to the first."""
    (one, units), (two, more) = sources
    (first, asked), (second, left) = sinks
    costs = []
    for part in (min(units, asked), max(0, units - left)):
        shipped = {(one, first): part, (one, second): units - part, (two, first): asked - part}
        shipped[(two, second)] = more - asked + part
        used = [pair for pair in shipped if shipped[pair] > 0]
        if all([pair in bounds for pair in used]):
            costs.append(sum([shipped[pair] * bounds[pair] for pair in used]))
    return min(costs, default=None)


def balanced(terms):
    """What is shipped from things and what to things, "0" having what is left over."""
    sources = [(thing, factor) for thing, factor in terms if factor > 0]
    sinks = [(thing, -factor) for thing, factor in terms if factor < 0]
    over = sum([factor for _, factor in terms])
    if over > 0:
        sinks.append(("0", over))
    if over < 0:
        sources.append(("0", -over))
    return sources, sinks
