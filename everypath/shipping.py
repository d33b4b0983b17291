"""The least sums of bounds by which multiples of things are bounded: units shipped from thing to thing.

A unit that goes from u to v costs the bound of (u, v); a x + b y + .. ships a units from x, b from y .. to "0", back
where they are negative. Each shipment is made along a cheapest way, taking back what was shipped before where that
is cheaper: so all of it together is cheapest at any time.
"""


class Prices:
    """What a unit costs from thing to thing: its bound in a closed zone.

    A pair without a bound costs more than any way by bounds, and as much as the cheapest way that has one such pair:
    so no way through other things is ever cheaper than straight on, and what is shipped need not know of those.
    """

    def __init__(self, bounds):
        self.bounds = bounds
        greatest = max([abs(bounds[pair]) for pair in bounds], default=0)
        self.lacking = 8 * (len(bounds) + 2) * (greatest + 1)
        self.from_there = {}
        self.to_there = {}
        for u, v in bounds:
            self.from_there[u] = min(bounds[(u, v)], self.from_there.get(u, 0))
            self.to_there[v] = min(bounds[(u, v)], self.to_there.get(v, 0))

    def price(self, u, v):
        if (u, v) in self.bounds:
            return self.bounds[(u, v)]
        return self.lacking + self.from_there.get(u, 0) + self.to_there.get(v, 0)


class Shipping:
    """How many units are shipped from thing to thing, at these prices."""

    def __init__(self, prices, flow):
        self.prices = prices
        self.flow = flow

    def copied(self):
        return Shipping(self.prices, {pair: self.flow[pair] for pair in self.flow})

    def cost_from(self, u, v):
        """What the next unit from u to v costs, taken back if one was shipped the other way."""
        if (v, u) in self.flow:
            return -self.prices.price(v, u)
        return self.prices.price(u, v)

    def ship(self, u, v, units):
        """Ships so many units from u to v."""
        while units > 0:
            way = self.cheapest_way(u, v)
            back = [self.flow[(to, at)] for at, to in way if (to, at) in self.flow]
            part = min([units, *back])
            for at, to in way:
                self.move(at, to, part)
            units -= part

    def move(self, u, v, units):
        if (v, u) not in self.flow:
            self.flow[(u, v)] = self.flow.get((u, v), 0) + units
        elif self.flow[(v, u)] > units:
            self.flow[(v, u)] -= units
        else:
            del self.flow[(v, u)]

    def cheapest_way(self, u, v):
        """The pairs along a cheapest way from u to v, over what is shipped from or to so far."""
        nodes = self.stops(u, v)
        costs = {u: 0}
        before = {}
        changed = True
        while changed:
            changed = False
            for at in nodes:
                for to in nodes:
                    if at == to or at not in costs:
                        continue
                    cost = costs[at] + self.cost_from(at, to)
                    if to not in costs or cost < costs[to]:
                        costs[to] = cost
                        before[to] = at
                        changed = True
        way = []
        while v != u:
            way.append((before[v], v))
            v = before[v]
        return way

    def stops(self, u, v):
        found = {u: True, v: True}
        for pair in self.flow:
            found[pair[0]] = True
            found[pair[1]] = True
        return list(found)

    def cost(self):
        """What all of it costs, None if a pair without a bound is needed."""
        bounds = self.prices.bounds
        if not all([pair in bounds for pair in self.flow]):
            return None
        return sum([self.flow[pair] * bounds[pair] for pair in self.flow])


def shipping_of(bounds, terms):
    """The shipping of terms, pairs (thing, factor)."""
    shipping = Shipping(Prices(bounds), {})
    for thing, factor in terms:
        if factor > 0:
            shipping.ship(thing, "0", factor)
        else:
            shipping.ship("0", thing, -factor)
    return shipping


def cost_of(bounds, terms):
    """The cost of terms, pairs (thing, factor); None if there is none."""
    sources, sinks = balanced(terms)
    if len(sources) > 1 and len(sinks) > 1:
        return shipping_of(bounds, terms).cost()
    total = 0
    for at, units in sources:
        for to, asked in sinks:
            if (at, to) not in bounds:
                return None
            total += min(units, asked) * bounds[(at, to)]
    return total


def balanced(terms):
    """What is shipped from things and what to things, "0" having what is left over."""
    sources = [(thing, factor) for thing, factor in terms if factor > 0]
    sinks = [(thing, -factor) for thing, factor in terms if factor < 0]
    over = sum([factor for _, factor in terms])
    if over > 0:
        sinks.append(("0", over))
    if over < 0:
        sources.append(("0", -over))
    return sources, sinks
