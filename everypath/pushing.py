"""What a paper demands put in its place, again and again, being asked anew only where something changed.

A WHERE is what demands tell: ("entry", f), ("exit", f) or ("cell", f, place, sides). ORIGINS are as in demanding.
"""

from heapq import heappop, heappush

from everypath.cuts import with_sides
from everypath.demanding import demanded_by, origins_of
from everypath.judge import zone_at
from everypath.ladders import round_up
from everypath.zonemath import copied, join_zones


class Pushing:
    """The paper as it stands, new throughout, and what was demanded so far.

    ladder: None if nothing is rounded; shares: for each where the zones that are demanded there, by origins;
    told_at: for each origin where it demands something; due: the origins that are to be asked anew; loose: where
    something stands that is to be put anew, whether or not what is demanded there changes.
    """

    def __init__(self, program, paper, ladder):
        self.program = program
        self.ladder = ladder
        self.paper = copied_paper(program, paper)
        self.callers = callers_of(program)
        self.shares = {}
        self.told_at = {}
        self.due = {origin: True for origin in origins_of(program, self.paper)}
        self.loose = {where: True for where in wheres_of(program, self.paper)}

    def push(self):
        """Puts all that is demanded in the place of the paper; tells whether that changes it."""
        touched = self.loose
        for origin in self.due:
            touched.update({where: True for where in self.ask(origin)})
        zones = {where: self.wanted_at(where) for where in touched}
        changed = [where for where in zones if zones[where] != zone_at(self.paper, where)]
        for where in changed:
            self.put(where, zones[where])
        self.loose = {}
        self.due = {origin: True for where in changed for origin in self.readers(where)}
        return len(changed) > 0

    def settle(self):
        """Pushes single wheres until nothing changes, as soon as they change, the functions called ahead of others."""
        ranks = ranks_of(self.program)
        queue = [(0, 0, origin) for origin in self.due]
        self.loose = {}
        while queue:
            _, _, origin = heappop(queue)
            if origin not in self.due:
                continue
            del self.due[origin]
            for where in self.ask(origin):
                zone = self.wanted_at(where)
                if zone != zone_at(self.paper, where):
                    self.put(where, zone)
                    for reader in self.readers(where):
                        self.due[reader] = True
                        heappush(queue, (ranks[reader[1]], self.place_of(reader), reader))

    def unround(self):
        """Goes on without rounding."""
        self.ladder = None
        self.loose = {where: True for where in wheres_of(self.program, self.paper)}

    def ask(self, origin):
        """Has what an origin demands now among the shares; tells where that, or what it demanded before, is."""
        before = self.told_at.get(origin, [])
        for where in before:
            self.shares[where].pop(origin, None)
        self.told_at[origin] = []
        for _, where, zone in self.demanded_now(origin):
            self.shares.setdefault(where, {})[origin] = zone
            self.told_at[origin].append(where)
        return [*before, *[where for where in self.told_at[origin] if where not in before]]

    def demanded_now(self, origin):
        """What an origin demands, nothing if it is none any more."""
        if origin[0] == "enter" and self.paper[1][origin[1]] is None:
            return []
        if origin[0] == "edge" and origin[3] not in self.paper[3][origin[1]][self.place_of(origin)]:
            return []
        return demanded_by(self.program, self.paper, origin)

    def place_of(self, origin):
        """The place from which it goes, -1 for one that goes from no place."""
        return self.program.edges[origin[1]][origin[2]][0] if origin[0] == "edge" else -1

    def wanted_at(self, where):
        """The join of what is demanded somewhere, rounded up and met with its sides if there is a ladder."""
        zone = None
        shares = self.shares.get(where, {})
        for origin in shares:
            zone = join_zones(zone, shares[origin])
        if zone is None or self.ladder is None:
            return zone
        zone = round_up(zone, self.ladder)
        return with_sides(zone, self.paper[0][where[1]], where[3]) if where[0] == "cell" else zone

    def put(self, where, zone):
        if where[0] != "cell":
            self.paper[1 if where[0] == "entry" else 2][where[1]] = zone
        elif zone is not None:
            self.paper[3][where[1]][where[2]][where[3]] = zone
        else:
            del self.paper[3][where[1]][where[2]][where[3]]

    def readers(self, where):
        """The origins whose demands hang on what is somewhere."""
        f = where[1]
        if where[0] == "entry":
            return [("enter", f)]
        if where[0] == "cell":
            return [("edge", f, number, where[3]) for number in self.program.starts[f][where[2]]]
        return [("edge", g, number, sides) for g, number, place in self.callers[f]
                for sides in self.paper[3][g][place]]


def copied_paper(program, paper):
    """A new paper just like it."""
    cuts, entries, exits, cells = paper
    functions = list(program.params)
    return ({f: [(x, n) for x, n in cuts[f]] for f in functions}, {f: copied(entries[f]) for f in functions},
            {f: copied(exits[f]) for f in functions},
            {f: [{sides: copied(rows[sides]) for sides in rows} for rows in cells[f]] for f in functions})


def callers_of(program):
    """For each function (g, number, place from which it goes) of all edges that call it."""
    found = {f: [] for f in program.params}
    for g in program.edges:
        for number, (place, _, action) in enumerate(program.edges[g]):
            if action[0] == "call":
                found[action[2]].append((g, number, place))
    return found


def wheres_of(program, paper):
    """Where something stands in a paper."""
    found = []
    for f in program.params:
        found.extend([("entry", f)] if paper[1][f] is not None else [])
        found.extend([("exit", f)] if paper[2][f] is not None else [])
        found.extend([("cell", f, place, sides) for place, rows in enumerate(paper[3][f]) for sides in rows])
    return found


def ranks_of(program):
    """Numbers of all functions, those that are called ahead of those that call them, as far as none turns."""
    ranks = {}
    for f in program.params:
        waiting = [(f, False)]
        while waiting:
            g, is_done = waiting.pop()
            if is_done and g not in ranks:
                ranks[g] = len(ranks)
            elif not is_done and g not in ranks:
                waiting.append((g, True))
                called = [edge[2][2] for edge in program.edges[g] if edge[2][0] == "call"]
                waiting.extend([(h, False) for h in called if (h, True) not in waiting])
    return ranks
