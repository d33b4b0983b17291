"""Rankings of loops: ranks that fall with each round, and zones that show it; what a ranking demands of its zones."""

from heapq import heappop, heappush

from everypath.callsteps import go_on
from everypath.cuts import is_row, with_sides
from everypath.demanding import parts_of_zone
from everypath.errors import BadName
from everypath.judge import fault_of
from everypath.kinds import is_list, is_list_of
from everypath.ladders import round_up
from everypath.loops import check_head
from everypath.papers import all_things, check_paper
from everypath.programs import check_program, is_function_of
from everypath.refusals import NotTaken
from everypath.trees import is_expression_over, names_read
from everypath.zonedeeds import draw, hold, step
from everypath.zonemath import is_zone_over, join_zones


def are_ranks(program, f, thing):
    """Whether it is a list of one or more expressions over names of f."""
    if not is_list(thing) or len(thing) == 0:
        return False
    return all([is_expression_over(rank, program.names[f]) for rank in thing])


def is_ranking_of(program, paper, f, head, thing):
    """Whether it is a ranking of a right loop."""
    if not is_list_of(thing, 2) or not are_ranks(program, f, thing[0]):
        return False
    ranks, cells = thing
    if not is_list_of(cells, len(program.loops[f][head].inner_places())):
        return False
    things = ranked_things(program, f, ranks)
    return all([are_ranked_cells(part, len(paper[0][f]), things) for part in cells])


def are_ranked_cells(thing, many, things):
    """Whether it is a dict from rows of so many sides to zones over the things, none of them None."""
    if not isinstance(thing, dict):
        return False
    if not all([isinstance(row, tuple) and is_row(row, many) for row in thing]):
        return False
    return all([thing[row] is not None and is_zone_over(thing[row], things) for row in thing])


def begun_thing(name):
    """The thing that is what a name was when the body was last begun."""
    return name + "1"


def names_ranked(ranks):
    """The names that ranks read, ascending."""
    return sorted(set([name for rank in ranks for name in names_read(rank, "e")]))


def ranked_things(program, f, ranks):
    """The things of the zones of a ranking with these ranks, ascending."""
    return sorted([*all_things(program, f), *[begun_thing(name) for name in names_ranked(ranks)]])


class RankedLoop:
    """A loop of f with ranks: what (1) and (2) of a ranking demand, by where it comes from.

    An ORIGIN is ("round", sides) or ("step", number, sides); what it demands are triples (place, sides, zone).
    """

    def __init__(self, program, paper, f, head, ranks):
        self.program = program
        self.paper = paper
        self.f = f
        self.loop = program.loops[f][head]
        self.ranks = ranks

    def origins(self, cells):
        """All origins in the order of what they demand, cells being those of the ranking."""
        found = [("round", sides) for sides in sorted(self.paper[3][self.f][self.loop.head])]
        for place, rows in zip(self.loop.inner_places(), cells):
            for sides in sorted(rows):
                found.extend([("step", number, sides) for number in self.program.starts[self.f][place]])
        return found

    def zone_from(self, cells, origin):
        """The zone that what an origin demands comes from."""
        if origin[0] == "round":
            return self.paper[3][self.f][self.loop.head][origin[1]]
        start = self.program.edges[self.f][origin[1]][0]
        return cells[start - self.loop.head - 1][origin[2]]

    def demanded(self, origin, zone):
        """What an origin with this zone demands."""
        if origin[0] == "round":
            place, behind = self.loop.head + 1, self.begun(hold(zone, self.loop.condition))
        else:
            _, place, action = self.program.edges[self.f][origin[1]]
            if not self.loop.head < place < self.loop.behind:
                return []
            behind = self.gone_along(zone, action)
        return [(place, sides, part) for sides, part in parts_of_zone(behind, self.paper[0][self.f])]

    def begun(self, zone):
        """The zone with what the names were at the begin of the body beside what they are."""
        if zone is None:
            return None
        drawing = {thing: ("name", thing) for thing in zone[0]}
        drawing.update({begun_thing(name): ("name", name) for name in names_ranked(self.ranks)})
        return draw(zone, drawing)

    def gone_along(self, zone, action):
        """What an edge with this action makes of a zone, if it leads on within the function."""
        if action[0] == "return":
            return None
        if action[0] == "call":
            return go_on(self.program, zone, action, self.paper[2][action[2]])
        return step(zone, action)

    def least_cells(self, ladder):
        """The least cells by a ladder: what is demanded is put there, the first places first, until nothing changes."""
        cells = [{} for _ in self.loop.inner_places()]
        shares = {}
        queue = [(self.loop.head, origin) for origin in self.origins(cells)]
        due = {origin: True for _, origin in queue}
        while queue:
            _, origin = heappop(queue)
            if origin not in due:
                continue
            del due[origin]
            for place, sides, part in self.demanded(origin, self.zone_from(cells, origin)):
                shares.setdefault((place, sides), {})[origin] = part
                zone = self.rounded_join(list(shares[(place, sides)].values()), sides, ladder)
                rows = cells[place - self.loop.head - 1]
                if zone != rows.get(sides):
                    rows[sides] = zone
                    for number in self.program.starts[self.f][place]:
                        due[("step", number, sides)] = True
                        heappush(queue, (place, ("step", number, sides)))
        return cells

    def rounded_join(self, zones, sides, ladder):
        """The join of what is demanded on a row of sides, rounded up and met with its sides."""
        whole = None
        for zone in zones:
            whole = join_zones(whole, zone)
        return with_sides(round_up(whole, ladder), self.paper[0][self.f], sides)


def is_ranking(program, paper, f, head, thing):
    check_ranked(program, paper, f, head)
    return is_ranking_of(program, paper, f, head, thing)


def check_ranked(program, paper, f, head):
    """The refusals of a program, a paper that the judge takes, a function and a head of it."""
    check_taken(program, paper)
    if not is_function_of(program, f):
        raise BadName(f)
    check_head(program, f, head)


def check_taken(program, paper):
    """The refusals of a program and a paper that the judge takes."""
    check_program(program)
    check_paper(program, paper)
    why = fault_of(program, paper)
    if why is not None:
        raise NotTaken(why)
