"""Zones for tests, and all values in them."""

import itertools
import math

REACH = 4


def random_rest(source, moduli=(0, 1, 1, 1, 2, 3, 4, 6)):
    modulus = source.choice(moduli)
    return (modulus, source.randrange(-REACH, REACH + 1) if modulus == 0 else source.randrange(modulus))


def random_zone(source, things=("x", "y"), dense=0.5, moduli=(0, 1, 1, 1, 2, 3, 4, 6), boxed=False):
    """A zone; a boxed one has each thing between -REACH and REACH."""
    nodes = ["0", *things]
    bounds = {(u, v): source.randrange(-REACH, REACH + 3) for u in nodes for v in nodes
              if u != v and source.random() < dense}
    if boxed:
        for thing in things:
            bounds[(thing, "0")] = min(REACH, bounds.get((thing, "0"), REACH))
            bounds[("0", thing)] = min(REACH, bounds.get(("0", thing), REACH))
    return list(things), bounds, {thing: random_rest(source, moduli) for thing in things}


def even_zone(source, things=("x", "y"), dense=0.5, boxed=False):
    modulus = source.choice((1, 1, 2, 3, 4))
    return random_zone(source, things, dense, (0, modulus, modulus, modulus), boxed)


def lies_in(zone, values):
    """Whether values are in a zone, by its own words."""
    things, bounds, rests = zone
    worth = {**values, "0": 0}
    if any(worth[u] - worth[v] > bound for (u, v), bound in bounds.items()):
        return False
    return all(worth[thing] == rests[thing][1] if rests[thing][0] == 0
               else worth[thing] % rests[thing][0] == rests[thing][1] for thing in things)


def grid(things, reach):
    for row in itertools.product(range(-reach, reach + 1), repeat=len(things)):
        yield dict(zip(things, row))


def values_in(zone, reach=REACH + 2):
    """All values in a zone that lie within reach."""
    return [] if zone is None else [values for values in grid(zone[0], reach) if lies_in(zone, values)]


def by_the_deeds(zone):
    """closed(zone), written straight along the deeds of [7.2]."""
    if zone is None:
        return None
    things, bounds, rests = zone[0], dict(zone[1]), {**zone[2], "0": (0, 0)}
    nodes = ["0", *things]
    pairs = [(u, v) for u in nodes for v in nodes if u != v]
    for deed in "ABCABC":
        if deed == "A":
            for u, v in pairs:
                common, apart = math.gcd(rests[u][0], rests[v][0]), rests[u][1] - rests[v][1]
                if common == 0:
                    if bounds.get((u, v), apart) < apart:
                        return None
                    bounds[u, v] = apart
                elif (u, v) in bounds:
                    while (bounds[u, v] - apart) % common:
                        bounds[u, v] -= 1
        if deed == "B":
            bounds = least_sums(nodes, bounds)
            if bounds is None:
                return None
        if deed == "C":
            sharper = {}
            for u in things:
                sharper[u] = deed_c(u, nodes, bounds, rests)
                if sharper[u] is None:
                    return None
            rests = {**sharper, "0": (0, 0)}
    return list(things), bounds, {thing: rests[thing] for thing in things}


def least_sums(nodes, bounds):
    """Deed B by going all simple ways; None if a way back is below 0."""
    found = {}
    for start in nodes:
        waiting = [(start, 0, (start,))]
        while waiting:
            here, cost, way = waiting.pop()
            for node in nodes:
                if (here, node) not in bounds:
                    continue
                total = cost + bounds[here, node]
                if node == start and total < 0:
                    return None
                if node not in way:
                    found[start, node] = min(total, found.get((start, node), total))
                    waiting.append((node, total, (*way, node)))
    return found


def deed_c(u, nodes, bounds, rests):
    """The rest of u behind deed C, by going through enough integers; None for empty."""
    told = [(rests[u][0], rests[u][1])]
    for v in nodes:
        if v != u and (u, v) in bounds and bounds.get((v, u)) == -bounds[u, v]:
            told.append((rests[v][0], rests[v][1] + bounds[u, v]))
    alone = [r for m, r in told if m == 0]
    period = math.lcm(*[m for m, _ in told if m != 0])
    tried = alone[:1] or range(period)
    fitting = [n for n in tried if all(n == r if m == 0 else (n - r) % m == 0 for m, r in told)]
    if not fitting:
        return None
    rest = (0, fitting[0]) if alone else (period, fitting[0])
    low, high = bounds.get(("0", u)), bounds.get((u, "0"))
    n = rest[1]
    if rest[0] != 0 and low is not None:
        n = -low + (rest[1] + low) % rest[0]
    elif rest[0] != 0 and high is not None:
        n = high - (high - rest[1]) % rest[0]
    if low is not None and n < -low or high is not None and n > high:
        return None
    return rest
