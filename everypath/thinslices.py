"""Searches by slices: where cuts take long, by the values of a sum that has but few, each a search by itself."""

from everypath.boards import Board
from everypath.middles import SCALE, corners_around, measure_around, middle_of
from everypath.multiples import add_multiples, common_divisor, dot, without_zeros
from everypath.reductions import Reduction
from everypath.searches import Search

# how many cuts are tried ahead of each slice
CUTS = 100


def some_values(ledger, numbers):
    """("values", values) of some that meet these rows, or ("none", multipliers of rows whose sum lets nothing).

    ("late", None) if more searches are needed than are let.
    """
    if ledger.slices_left is not None:
        if ledger.slices_left == 0:
            return "late", None
        ledger.slices_left -= 1
    board = Board(ledger, numbers)
    board.stand(functionals_of(board))
    search = Search(board)
    if search.refuted is None and len(board.lattice.columns) > 1:
        near = make_thin(board, search.corner)
        if is_met_at(board, near):
            return "values", board.lattice.unknowns_at(near)
        search = Search(board)
    while not search.is_done(CUTS):
        kind, found = without_slice(search, numbers)
        if kind != "row":
            return kind, found
        search.put_behind(board.bring(found))
    if search.refuted is not None:
        return "none", search.refuted
    return "values", board.lattice.unknowns_at(search.found)


def functionals_of(board):
    """The sums over x that the t are."""
    return [without_zeros(dict(list(enumerate(functional)))) for functional in board.lattice.functionals]


def make_thin(board, corner):
    """Changes the t so that the first ones have but few values; tells integers near the middle of what is let."""
    lattice = board.lattice
    corners = corners_around(board, corner)
    scale = SCALE * len(corners)
    middle = middle_of(corners)
    over_x = lattice.moved(middle)
    reduction = Reduction(lattice, measure_around(board, middle, scale))
    reduction.shorten()
    sums = functionals_of(board)
    near = reduction.nearest_to([dot(factors, over_x) for factors in sums], scale)
    lattice.reverse_columns()
    board.stand(sums[::-1])
    return near[::-1]


def is_met_at(board, numbers):
    return all([board.lines[line].excess(numbers, 1) <= 0 for line in board.standing])


def without_slice(search, numbers):
    """Searches the first slice: tells what some_values does, or ("row", number) of what leaves it out."""
    board = search.board
    ledger = board.ledger
    low = board.write(search.lowest_line())
    factors, bound = ledger.rows[low]
    high = ledger.put(({at: -factors[at] for at in factors}, -bound), None)
    kind, found = some_values(ledger, [*numbers, low, high])
    if kind != "none":
        return kind, found
    return lifted(ledger, found, low, high)


def lifted(ledger, multipliers, low, high):
    """What lets nothing where the rows low and high hold as what holds without high, told as by without_slice.

    high is low with all signs turned. A sum with high in it stands for one that is as good where both hold: it is
    made of the same rows but high, with low so often that it is some times low more, and no high.
    """
    moved = {}
    for number in ledger.needed(multipliers):
        made = ledger.made[number]
        if number > high and (high in made or any([part in moved for part in made])):
            fresh, extra = moved_sum(moved, made, low, high)
            common = common_divisor(list(ledger.summed(made)[0].values()))
            add_multiples(fresh, {low: 1}, -extra % common)
            whole = common_divisor(list(ledger.summed(fresh)[0].values()))
            moved[number] = (ledger.sum_up(without_zeros(fresh)), whole // common, -(-extra // common))
    fresh, extra = moved_sum(moved, multipliers, low, high)
    if extra <= 0:
        add_multiples(fresh, {low: 1}, -extra)
        return "none", without_zeros(fresh)
    return "row", ledger.sum_up(fresh)


def moved_sum(moved, multipliers, low, high):
    """The multipliers of a sum with all rows moved, without high and low; how many times low it is more then.

    moved has for a row (number of another one, how many times this, how many times low it is more).
    """
    fresh = {}
    extra = 0
    for number in multipliers:
        times = multipliers[number]
        if number in (low, high):
            extra += times if number == high else -times
        elif number in moved:
            other, many, more = moved[number]
            add_multiples(fresh, {other: 1}, times * many)
            extra += times * more
        else:
            add_multiples(fresh, {number: 1}, times)
    return fresh, extra
