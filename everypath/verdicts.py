"""Verdicts on assertions: inputs that break one, or a paper or a cover that shows that none do."""

from everypath.branches import branch_at_first
from everypath.closing import close
from everypath.coverjudge import judged_branches
from everypath.errors import BadAssertion
from everypath.gathering import gathered
from everypath.graphs import assertions, is_assertion
from everypath.judge import fault_of
from everypath.kinds import are_integers, is_list_of, is_number
from everypath.leastpapers import check_least, settled
from everypath.papers import is_paper_of
from everypath.plays import played_for
from everypath.programs import check_program
from everypath.rankings import check_taken
from everypath.runs import check_many, check_steps
from everypath.sharper import check_rounds, narrow
from everypath.zonedeeds import hold


def shows(program, paper, assertion):
    check_taken(program, paper)
    check_assertion(program, assertion)
    return is_shown(program, paper, assertion)


def verdict(program, assertion, ladder, cuts, rounds, steps, many):
    check_program(program)
    check_assertion(program, assertion)
    check_search(program, ladder, cuts, rounds, steps, many)
    return Verdicts(program, ladder, cuts, rounds, steps, many).on(assertion)


def is_verdict(program, assertion, thing):
    check_program(program)
    check_assertion(program, assertion)
    if is_list_of(thing, 3) and thing[0] == "unsafe" and are_integers(thing[1]) and is_number(thing[2]):
        return played_for(program, thing[1], thing[2]).why == why_broken(assertion)
    if is_list_of(thing, 3) and thing[0] == "safe" and is_number(thing[2]):
        fault, found = judged_branches(branch_at_first(program, thing[2]), thing[1])
        return fault is None and not any([branch.trail.why in (("going",), why_broken(assertion)) for branch in found])
    if not is_list_of(thing, 2) or thing[0] != "safe" or not is_paper_of(program, thing[1]):
        return False
    return fault_of(program, thing[1]) is None and is_shown(program, thing[1], assertion)


def verdicts(program, ladder, cuts, rounds, steps, many):
    check_program(program)
    check_search(program, ladder, cuts, rounds, steps, many)
    found = Verdicts(program, ladder, cuts, rounds, steps, many)
    return [(assertion, found.on(assertion)[0]) for assertion in assertions(program)]


class Verdicts:
    """What verdicts come from: all paths, if they are not too many, and the paper, made when it is first asked for."""

    def __init__(self, program, ladder, cuts, rounds, steps, many):
        self.program = program
        self.ladder = ladder
        self.cuts = cuts
        self.rounds = rounds
        self.steps = steps
        self.gathering = gathered(branch_at_first(program, steps), many)
        self.paper = None

    def on(self, assertion):
        """The verdict on an assertion."""
        found = [] if self.gathering is None else self.gathering.found
        breaks = [branch for branch in found if branch.trail.why == why_broken(assertion)]
        if breaks:
            return "unsafe", list(breaks[0].grounds.inputs), self.steps
        paper = self.narrowed_paper()
        if is_shown(self.program, paper, assertion):
            return "safe", paper
        if self.gathering is None:
            return "open", ("many",)
        going = [branch for branch in found if branch.trail.why == ("going",)]
        if going:
            return "open", ("going", list(going[0].trail.sides))
        return "safe", self.gathering.told_cover(), self.steps

    def narrowed_paper(self):
        """The least paper, narrowed."""
        if self.paper is None:
            pushing = settled(self.program, self.ladder, self.cuts)
            pushing.unround()
            narrow(pushing, self.rounds)
            self.paper = pushing.paper
        return self.paper


def is_shown(program, paper, assertion):
    """Whether at an assertion nothing is left of any cell in which the condition does not hold."""
    f, number = assertion
    place, _, action = program.edges[f][number]
    return all([close(hold(zone, ("not", action[1]))) is None for zone in list(paper[3][f][place].values())])


def why_broken(assertion):
    """Why a run stops that breaks an assertion."""
    return ("breaks", assertion[0], assertion[1])


def check_assertion(program, assertion):
    if not is_assertion(program, assertion):
        raise BadAssertion(assertion)


def check_search(program, ladder, cuts, rounds, steps, many):
    """The refusals of what verdicts are searched by."""
    check_least(program, ladder, cuts)
    check_rounds(rounds)
    check_steps(steps)
    check_many(many)
