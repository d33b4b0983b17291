"""Sharper papers: what is wanted put in a paper's place, and papers with cuts beside those with fewer."""

from everypath.errors import BadOther
from everypath.judge import fault_of
from everypath.kinds import is_number, tupled
from everypath.leastpapers import joined_rows
from everypath.papers import check_paper, is_paper_of
from everypath.programs import check_function, check_place, check_program
from everypath.pushing import Pushing
from everypath.refusals import BadRounds, NotTaken
from everypath.zonemath import copied, lies_below


def narrowed(program, paper, rounds):
    check_narrowing(program, paper, rounds)
    pushing = Pushing(program, paper, None)
    narrow(pushing, rounds)
    return pushing.paper


def stands_from(program, paper, rounds):
    check_narrowing(program, paper, rounds)
    pushing = Pushing(program, paper, None)
    done = 0
    while pushing.push():
        done += 1
        if done > rounds:
            return None
    return done


def rows_at(program, paper, f, place):
    check_program(program)
    check_paper(program, paper)
    check_function(program, f)
    check_place(program, f, place)
    return sorted(paper[3][f][place])


def is_sharper(program, paper, other):
    check_program(program)
    check_paper(program, paper)
    if not is_paper_of(program, other) or not are_begins(program, other[0], paper[0]):
        raise BadOther(other)
    for f in program.params:
        for zones in (1, 2):
            if not lies_below(paper[zones][f], other[zones][f]):
                return False
        many = len(other[0][f])
        for rows, wider in zip(paper[3][f], other[3][f]):
            if not all([lies_below(rows[sides], wider.get(sides[:many])) for sides in rows]):
                return False
    return True


def uncut(program, paper):
    check_program(program)
    check_paper(program, paper)
    functions = list(program.params)
    joins = {f: [joined_rows(rows) for rows in paper[3][f]] for f in functions}
    return ({f: [] for f in functions}, {f: copied(paper[1][f]) for f in functions},
            {f: copied(paper[2][f]) for f in functions},
            {f: [{} if zone is None else {(): zone} for zone in joins[f]] for f in functions})


def check_narrowing(program, paper, rounds):
    """The refusals of a program, a number of rounds and, behind these, a paper that the judge does not take."""
    check_program(program)
    check_paper(program, paper)
    check_rounds(rounds)
    why = fault_of(program, paper)
    if why is not None:
        raise NotTaken(why)


def check_rounds(rounds):
    if not is_number(rounds):
        raise BadRounds(rounds)


def narrow(pushing, rounds):
    """Puts what is wanted in the paper's place so many times, as long as that changes something."""
    for _ in range(rounds):
        if not pushing.push():
            return


def are_begins(program, cuts, others):
    """Whether the list of cuts of each function is a begin of the other one."""
    return all([tupled(cuts[f]) == tupled(others[f])[:len(cuts[f])] for f in program.params])
