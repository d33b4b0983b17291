"""The least integers that meet a system, or a refutation: by searches of several kinds, gone on with in turns."""

from everypath.boards import Board
from everypath.proofs import Writer
from everypath.searches import Search

# how many cuts a node may have, and how many changes of corners a turn: cuts alone; splits alone where those take long
KINDS = ((1000000000, 600), (0, 200))


def least_values(ranges, rows):
    """("values", values) of the least ones that meet the system, or ("none", refutation)."""
    board = Board(ranges, rows, {})
    search = finished_search(board)
    if search.best is None:
        return "none", Writer(board).items_below(search.root)
    return "values", board.lattice.unknowns_at(search.best)


def finished_search(board):
    """The first search that is done, each of a kind being gone on with in its turn."""
    searches = []
    while True:
        for at, (cuts, changes) in enumerate(KINDS):
            if at == len(searches):
                searches.append(Search(board, cuts))
            if searches[at].is_done(changes):
                return searches[at]


def least_sum(ranges, rows, factors):
    """("least", n, values, refutation) for the least sum, or ("none", refutation)."""
    kind, found = least_values(ranges, rows)
    if kind == "none":
        return kind, found
    tried = {}
    n = sum_at(factors, found)
    start, apart, low = sums_from(ranges, rows, factors)
    reach = 0
    # sums that can be have the distance apart; the first ones are tried first, since the least is seldom far from them
    while start + apart * low < n:
        middle = low + min(reach, ((n - start) // apart - 1 - low) // 2)
        bound = start + apart * middle
        tried[bound] = least_values(ranges, [*rows, (factors, bound)])
        if tried[bound][0] == "values":
            n = sum_at(factors, tried[bound][1])
        else:
            low = middle + 1
            reach = 2 * reach + 1
    for bound in (n, n - 1):
        if bound not in tried:
            tried[bound] = least_values(ranges, [*rows, (factors, bound)])
    return "least", n, tried[n][1], tried[n - 1][1]


def sum_at(factors, values):
    return sum([factor * worth for factor, worth in zip(factors, values)])


def sums_from(ranges, rows, factors):
    """What sums there can be by the rows alone: start + apart * t, the last being the least t."""
    board = Board(ranges, rows, {at: factor for at, factor in enumerate(factors) if factor != 0})
    lattice = board.lattice
    start = sum_at(factors, lattice.start)
    if not lattice.leading or lattice.leading[0] != 0:
        return start, 1, 0
    return start, sum_at(factors, lattice.columns[0]), Search(board, 0).lowest_first()
