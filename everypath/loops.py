"""Loops: the heads of functions, the places within their loops, and what may count the rounds down."""

from everypath.kinds import is_integer
from everypath.programs import check_function
from everypath.refusals import BadHead
from everypath.trees import turned


def heads(program, f):
    check_function(program, f)
    return sorted(program.loops[f])


def inner_places(program, f, head):
    return checked_loop(program, f, head).inner_places()


def leads(program, f, head):
    return leads_of(checked_loop(program, f, head).condition)


def checked_loop(program, f, head):
    """The loop with this head, behind the refusals of a program, a function and a head."""
    check_function(program, f)
    check_head(program, f, head)
    return program.loops[f][head]


def check_head(program, f, head):
    if not is_integer(head) or head not in program.loops[f]:
        raise BadHead(head)


def leads_of(condition):
    """The leads that a condition has, each once, in the order of the text."""
    found = []
    waiting = [condition]
    while waiting:
        part = waiting.pop()
        word = part[0]
        if word == "not":
            waiting.append(turned(part[1]))
        elif word == "and":
            waiting.extend([part[2], part[1]])
        elif word in ("lt", "le"):
            lead = ("sub", part[2], part[1])
            lead = ("sub", lead, ("number", 1)) if word == "lt" else lead
            if lead not in found:
                found.append(lead)
    return found
