"""The judge of rankings, how often loops go round by them, and rankings that are found."""

from everypath.closing import close
from everypath.folds import with_names
from everypath.kinds import tupled
from everypath.ladders import check_ladder
from everypath.loops import leads_of
from everypath.mosts import View
from everypath.rankings import RankedLoop, are_ranks, begun_thing, check_ranked, is_ranking_of, names_ranked
from everypath.refusals import BadRanking, BadRanks, NotRanked
from everypath.zonemath import copied, lies_below


def judged_ranking(program, paper, f, head, ranking):
    check_ranking(program, paper, f, head, ranking)
    return ranking_fault(program, paper, f, head, ranking)


def rounds_at_most(program, paper, f, head, ranking):
    check_ranking(program, paper, f, head, ranking)
    why = ranking_fault(program, paper, f, head, ranking)
    if why is not None:
        raise NotRanked(why)
    return most_rounds(ranking)


def ranking(program, paper, f, head, ranks, ladder):
    check_ranked(program, paper, f, head)
    if not are_ranks(program, f, ranks):
        raise BadRanks(ranks)
    check_ladder(ladder)
    right = tupled(ranks)
    return list(right), RankedLoop(program, paper, f, head, right).least_cells(ladder)


def found_ranking(program, paper, f, head, ladder):
    check_ranked(program, paper, f, head)
    check_ladder(ladder)
    known = {}
    for ranks in ranks_to_try(leads_of(program.loops[f][head].condition)):
        # the cells hang on the names alone that the ranks read
        names = tuple(names_ranked(ranks))
        if names not in known:
            known[names] = RankedLoop(program, paper, f, head, ranks).least_cells(ladder)
        # what the cells demand of each other they hold, being the least ones
        if ranks_fault(program.loops[f][head], ranks, known[names]) is None:
            return ranks, [{sides: copied(rows[sides]) for sides in rows} for rows in known[names]]
    return None


def check_ranking(program, paper, f, head, thing):
    """The refusals of a program, a paper that the judge takes, a function, a head and a ranking."""
    check_ranked(program, paper, f, head)
    if not is_ranking_of(program, paper, f, head, thing):
        raise BadRanking(thing)


def ranks_to_try(found):
    """The lists of one lead, then those of two unlike ones."""
    pairs = [[one, other] for one in found for other in found if one != other]
    return [*[[one] for one in found], *pairs]


def ranking_fault(program, paper, f, head, thing):
    """The first of the words by which a right ranking is not taken, None if it is."""
    ranks, cells = tupled(thing[0]), thing[1]
    ranked = RankedLoop(program, paper, f, head, ranks)
    for origin in ranked.origins(cells):
        for place, sides, zone in ranked.demanded(origin, ranked.zone_from(cells, origin)):
            there = cells[place - head - 1].get(sides)
            if there is None or not lies_below(zone, there):
                return origin
    return ranks_fault(ranked.loop, ranks, cells)


def ranks_fault(loop, ranks, cells):
    """The first of the words (3) and (4) by which ranks with these cells are not taken, None if they are."""
    for sides, view in views_of(cells[0]):
        for index, rank in enumerate(ranks):
            if not is_at_most(view, ("sub", ("number", 0), rank), 0):
                return "low", sides, index
    for sides, view in views_of(cells[loop.last - loop.head - 1]):
        if not falls(view, ranks):
            return "falls", sides
    return None


def views_of(rows):
    """(row, view of its zone closed) for all rows, ascending, but those that close to None."""
    shut = [(sides, close(rows[sides])) for sides in sorted(rows)]
    return [(sides, View(zone)) for sides, zone in shut if zone is not None]


def is_at_most(view, expression, bound):
    most = view.most(view.form(expression))
    return most is not None and most <= bound


def falls(view, ranks):
    """Whether a rank falls by a round, all ahead of it not growing."""
    for rank in ranks:
        begun = with_names(rank, {name: ("name", begun_thing(name)) for name in names_ranked([rank])})
        change = ("sub", rank, begun)
        if is_at_most(view, change, -1):
            return True
        if not is_at_most(view, change, 0):
            return False
    return False


def most_rounds(thing):
    """How often a loop with this ranking, which is taken, begins its body at most; None if it is not told."""
    views = [view for _, view in views_of(thing[1][0])]
    if not views:
        return 0
    many = 1
    for rank in tupled(thing[0]):
        mosts = [view.most(view.form(rank)) for view in views]
        if None in mosts:
            return None
        many *= 1 + max(mosts)
    return many
