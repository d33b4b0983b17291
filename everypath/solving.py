"""The least integers that meet a system, or the items of a refutation.

First come cuts, and where they take long narrowed ranges, and where those do thin slices.
"""

from everypath.boards import Board
from everypath.ledgers import Ledger
from everypath.multiples import without_zeros
from everypath.probes import probed_values
from everypath.searches import Search
from everypath.thinslices import some_values

# how many cuts are tried first; then how many rows narrowed ranges may look at, how many slices may be searched
CUTS = 60
FEW_LOOKS = 8000
FEW_SLICES = 2
MANY_LOOKS = 60000


def least_values(ranges, rows):
    """("values", values) of the least ones that meet the system, or ("none", items)."""
    search = search_toward(ranges, rows, [])
    if search.is_done(CUTS):
        return told(search)
    kind, found = slow_values(ranges, rows)
    if kind != "some":
        return kind, found
    at = first_free(ranges)
    n = lowest_sum(ranges, rows, unit(len(ranges), at), found)
    return least_values([*ranges[:at], (n, n), *ranges[at + 1:]], rows)


def least_toward(ranges, rows, factors):
    """("values", values) of the least ones, as lists compare, of those with the least sum; or ("none", items)."""
    if not any(factors):
        return least_values(ranges, rows)
    search = search_toward(ranges, rows, factors)
    if search.is_done(CUTS):
        return told(search)
    kind, found = any_values(ranges, rows)
    if kind == "none":
        return kind, found
    return least_values(ranges, [*rows, (factors, lowest_sum(ranges, rows, factors, found))])


def any_values(ranges, rows):
    """("values", values) of some that meet the system, or ("none", items)."""
    search = search_toward(ranges, rows, [])
    if search.is_done(CUTS):
        return told(search)
    kind, found = slow_values(ranges, rows)
    return "values" if kind == "some" else kind, found


def slow_values(ranges, rows):
    """Of a system of which cuts take long ("values", the least values), ("some", some values) or ("none", items).

    Narrowed ranges and slices are tried by turns, since either may take long where the other ones do not.
    """
    probed = probed_values(ranges, rows, FEW_LOOKS)
    if probed is not None:
        return probed
    kind, found = sliced_values(ranges, rows, FEW_SLICES)
    if kind == "none":
        return kind, found
    probed = probed_values(ranges, rows, MANY_LOOKS)
    if probed is not None:
        return probed
    if kind == "late":
        kind, found = sliced_values(ranges, rows, None)
    return "some" if kind == "values" else kind, found


def sliced_values(ranges, rows, slices):
    """As any_values, by so many searches of slices at most, None for as many as come; ("late", None) beyond that."""
    ledger = Ledger(ranges, rows)
    ledger.slices_left = slices
    kind, found = some_values(ledger, list(range(ledger.many)))
    return kind, [("sums", ledger.listed_sums(found))] if kind == "none" else found


def search_toward(ranges, rows, factors):
    """A search for what is least by these factors, then as lists compare."""
    ledger = Ledger(ranges, rows)
    board = Board(ledger, list(range(ledger.many)))
    board.stand([without_zeros(dict(list(enumerate(factors)))), *[{at: 1} for at in range(len(ranges))]])
    return Search(board)


def told(search):
    """What a search tells that is done."""
    if search.refuted is None:
        return "values", search.board.lattice.unknowns_at(search.found)
    return "none", [("sums", search.board.ledger.listed_sums(search.refuted))]


def first_free(ranges):
    """The first unknown that may have more than one value."""
    return [at for at, (low, high) in enumerate(ranges) if low < high][0]


def unit(many, at):
    return [1 if to == at else 0 for to in range(many)]


def least_sum(ranges, rows, factors):
    """("least", n, values, items) for the least sum, or ("none", items)."""
    kind, found = any_values(ranges, rows)
    if kind == "none":
        return kind, found
    n = lowest_sum(ranges, rows, factors, found)
    values = least_values(ranges, [*rows, (factors, n)])[1]
    return "least", n, values, any_values(ranges, [*rows, (factors, n - 1)])[1]


def lowest_sum(ranges, rows, factors, found):
    """The least sum of all values that meet the system, found being some of them."""
    n = sum_at(factors, found)
    search = search_toward(ranges, rows, factors)
    start, apart = sums_of(search.board.lattice, factors)
    if apart == 0:
        return n
    if search.is_done(CUTS):
        return start + apart * search.found[0]
    low = search.lowest_first()
    reach = 0
    # sums that can be have the distance apart; the first ones are tried first, since the least is seldom far from them
    while start + apart * low < n:
        middle = low + min(reach, ((n - start) // apart - 1 - low) // 2)
        kind, values = sliced_values(ranges, [*rows, (factors, start + apart * middle)], None)
        if kind == "values":
            n = sum_at(factors, values)
        else:
            low = middle + 1
            reach = 2 * reach + 1
    return n


def sum_at(factors, values):
    return sum([factor * worth for factor, worth in zip(factors, values)])


def sums_of(lattice, factors):
    """What sums there may be: (start, apart), start and any integer times apart more; apart 0 for start alone."""
    start = sum_at(factors, lattice.start)
    if not lattice.leading or lattice.leading[0] != 0:
        return start, 0
    return start, sum_at(factors, lattice.columns[0])
