"""Feeds: inputs for each any by itself; and what names are whenever a run stands at an edge."""

from everypath.errors import BadNames
from everypath.graphs import check_edge, is_any
from everypath.kinds import are_integers, is_list
from everypath.plays import Play
from everypath.programs import check_program
from everypath.refusals import BadFeeds
from everypath.runs import check_inputs, check_steps
from everypath.trees import is_name


class FedPlay(Play):
    """A run that is fed: each any takes the next integer of its own edge's list; fed: what is taken, in its order."""

    def __init__(self, program, lists):
        Play.__init__(self, program, [])
        self.lists = lists
        self.taken_of = {edge: 0 for edge in lists}
        self.fed = []

    def drawn_from(self, low, high):
        f, place, _ = self.frames[-1]
        edge = (f, self.program.starts[f][place][0])
        at = self.taken_of.get(edge, 0)
        integers = self.lists.get(edge, ())
        if at == len(integers) or not low <= integers[at] <= high:
            return None
        self.taken_of[edge] = at + 1
        self.fed.append(integers[at])
        return integers[at]


def fed(program, feeds, steps):
    check_program(program)
    if not are_feeds(program, feeds):
        raise BadFeeds(feeds)
    check_steps(steps)
    play = FedPlay(program, feeds)
    play.go(steps)
    return play.fed


def visits(program, edge, names, inputs, steps):
    check_program(program)
    check_edge(program, edge)
    if not is_list(names) or not all([is_name(name) for name in names]):
        raise BadNames(names)
    check_inputs(inputs)
    check_steps(steps)
    at = (edge[0], program.edges[edge[0]][edge[1]][0])
    play = Play(program, inputs)
    found = []
    while play.why is None:
        f, place, values = play.frames[-1]
        if (f, place) == at:
            found.append(tuple([values.get(name, 0) for name in names]))
        if play.taken == steps:
            return found
        play.move()
    return found


def are_feeds(program, thing):
    """Whether it is a dict from edges with any to lists of integers."""
    if not isinstance(thing, dict):
        return False
    return all([is_any(program, key) and are_integers(thing[key]) for key in thing])
