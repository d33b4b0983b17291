"""The least sums of bounds by which multiples of things are bounded: units shipped from thing to thing.

A unit that goes from u to v costs the bound of (u, v); a x + b y + .. ships a units from x, b from y .. to "0", back
where they are negative. Each shipment is made along a cheapest way, taking back what was shipped before where that
is cheaper: so all of it together is cheapest at any time.
"""


class Shipping:
    """What is shipped by the bounds of a closed zone; a pair without a bound costs lacking, more than any other way."""

    def __init__(self, bounds, lacking, flow):
        self.bounds = bounds
        self.lacking = lacking
        self.flow = flow

    def copied(self):
        return Shipping(self.bounds, self.lacking, {pair: self.flow[pair] for pair in self.flow})

    def cost_from(self, u, v):
        """What the next unit from u to v costs, taken back if one was shipped the other way."""
        if (v, u) in self.flow:
            return -self.bounds.get((v, u), self.lacking)
        return self.bounds.get((u, v), self.lacking)

    def ship(self, u, v, units):
        """Ships so many units from u to v."""
        while units > 0:
            way = self.cheapest_way(u, v)
            back = [self.flow[(to, at)] for at, to in way if (to, at) in self.flow]
            part = min([units, *back])
            for at, to in way:
                self.move(at, to, part)
            units -= part

    def move(self, u, v, units):
        if (v, u) not in self.flow:
            self.flow[(u, v)] = self.flow.get((u, v), 0) + units
        elif self.flow[(v, u)] > units:
            self.flow[(v, u)] -= units
        else:
            del self.flow[(v, u)]

    def cheapest_way(self, u, v):
        """The pairs along a cheapest way from u to v, over what is shipped from or to so far."""
        nodes = self.stops(u, v)
        costs = {u: 0}
        before = {}
        changed = True
        while changed:
            changed = False
            for at in nodes:
                for to in nodes:
                    if at == to or at not in costs:
                        continue
                    cost = costs[at] + self.cost_from(at, to)
                    if to not in costs or cost < costs[to]:
                        costs[to] = cost
                        before[to] = at
                        changed = True
        way = []
        while v != u:
            way.append((before[v], v))
            v = before[v]
        return way

    def stops(self, u, v):
        found = {u: True, v: True}
        for pair in self.flow:
            found[pair[0]] = True
            found[pair[1]] = True
        return list(found)

    def cost(self):
        """What all of it costs, None if a pair without a bound is needed."""
        if not all([pair in self.bounds for pair in self.flow]):
            return None
        return sum([self.flow[pair] * self.bounds[pair] for pair in self.flow])


def shipping_of(bounds, terms):
    """The shipping of terms, pairs (thing, factor)."""
    greatest = max([abs(bounds[pair]) for pair in bounds], default=0)
    shipping = Shipping(bounds, 4 * (len(bounds) + 2) * (greatest + 1), {})
    for thing, factor in terms:
        if factor > 0:
            shipping.ship(thing, "0", factor)
        else:
            shipping.ship("0", thing, -factor)
    return shipping


def cost_of(bounds, terms):
    """The cost of terms, pairs (thing, factor); None if there is none."""
    sources, sinks = balanced(terms)
    if len(sources) > 1 and len(sinks) > 1:
        return shipping_of(bounds, terms).cost()
    total = 0
    for at, units in sources:
        for to, asked in sinks:
            if (at, to) not in bounds:
                return None
            total += min(units, asked) * bounds[(at, to)]
    return total


def balanced(terms):
    """What is shipped from things and what to things, "0" having what is left over."""
    sources = [(thing, factor) for thing, factor in terms if factor > 0]
    sinks = [(thing, -factor) for thing, factor in terms if factor < 0]
    over = sum([factor for _, factor in terms])
    if over > 0:
        sinks.append(("0", over))
    if over < 0:
        sources.append(("0", -over))
    return sources, sinks
