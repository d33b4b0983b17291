"""The least integers that meet a system, or a refutation: by searches of several kinds, gone on with in turns."""

from everypath.boards import Board
from everypath.proofs import Writer
from everypath.searches import Search

CUTS_ALONE = 1000000000
KINDS = (CUTS_ALONE, 0, 5)
CHANGES = 200


def search_board(board, is_first_alone):
    """The first search that is done, each of a kind being gone on with in its turn."""
    searches = [Search(board, cuts, is_first_alone) for cuts in KINDS]
    while True:
        for search in searches:
            if search.is_done(CHANGES):
                return search


def least_values(ranges, rows):
    """("values", values) of the least ones that meet the system, or ("none", refutation)."""
    board = Board(ranges, rows, {})
    search = search_board(board, False)
    if search.best is None:
        return "none", Writer(board, None).items_below(search.root)
    return "values", board.lattice.unknowns_at(search.best)


def least_sum(ranges, rows, factors):
    """("least", n, values, refutation) for the least sum, or ("none", refutation)."""
    toward = {at: factor for at, factor in enumerate(factors) if factor != 0}
    board = Board(ranges, rows, toward)
    search = search_board(board, True)
    if search.best is None:
        return "none", Writer(board, None).items_below(search.root)
    found = board.lattice.unknowns_at(search.best)
    n = sum([toward[at] * found[at] for at in toward])
    _, values = least_values(ranges, [*rows, (factors, n), ([-factor for factor in factors], -n)])
    less = board.put_behind((toward, n - 1), None, None)
    return "least", n, values, Writer(board, less).items_below(search.root)
