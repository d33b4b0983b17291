"""Rankings of loops: ranks that fall with each round, and zones that show it."""

from everypath.errors import BadName
from everypath.judge import fault_of
from everypath.loops import check_head
from everypath.papers import check_paper
from everypath.programs import check_program, is_function_of
from everypath.ranks import is_ranking_of
from everypath.refusals import NotTaken


def is_ranking(program, paper, f, head, thing):
    check_ranked(program, paper, f, head)
    return is_ranking_of(program, paper, f, head, thing)


def check_ranked(program, paper, f, head):
    """The refusals of a program, a paper that the judge takes, a function and a head of it."""
    check_taken(program, paper)
    if not is_function_of(program, f):
        raise BadName(f)
    check_head(program, f, head)


def check_taken(program, paper):
    """The refusals of a program and a paper that the judge takes."""
    check_program(program)
    check_paper(program, paper)
    why = fault_of(program, paper)
    if why is not None:
        raise NotTaken(why)
