"""Secrets: which inputs what an edge meets hangs on."""

from everypath.graphs import check_edge, is_any
from everypath.kinds import is_list, tupled
from everypath.programs import check_program
from everypath.refusals import BadSecrets
from everypath.slices import sliced_edges


def hangs_on(program, edge):
    check_program(program)
    check_edge(program, edge)
    return anys_in_slice(program, edge)


def is_open(program, secrets, edge):
    check_program(program)
    if not is_list(secrets) or not all([is_any(program, secret) for secret in secrets]):
        raise BadSecrets(secrets)
    if len(set(tupled(secrets))) < len(secrets):
        raise BadSecrets(secrets)
    check_edge(program, edge)
    found = anys_in_slice(program, edge)
    return not any([tuple(secret) in found for secret in secrets])


def anys_in_slice(program, edge):
    """The edges with any in the slice of an edge, in its order."""
    return [part for part in sliced_edges(program, edge) if is_any(program, part)]
