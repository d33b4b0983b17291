"""What follows from a paper that the judge takes: places where nobody comes, integers that are known, less program."""

from everypath.closing import close
from everypath.errors import BadCondition, BadName, BadPlace
from everypath.kinds import is_integer, is_text, tupled
from everypath.programs import Program, is_function_of
from everypath.rankings import check_taken
from everypath.rewriting import function_of, put_in
from everypath.trees import is_condition_over
from everypath.zonedeeds import hold
from everypath.zonemath import strip_from


def dead(program, paper):
    check_taken(program, paper)
    return [(f, place) for f in program.params for place in range(program.places[f]) if is_dead(paper, f, place)]


def known(program, paper, f, place, x):
    check_place_within(program, paper, f, place)
    if not is_text(x) or x not in program.names[f]:
        raise BadName(x)
    return known_at(paper, f, place, [x]).get(x)


def answer_at(program, paper, f, place, condition):
    check_place_within(program, paper, f, place)
    if not is_condition_over(condition, program.names[f]):
        raise BadCondition(condition)
    return answer(paper, f, place, tupled(condition))


def folded(program, paper):
    check_taken(program, paper)
    functions = []
    for f, params, _ in program.trees:
        functions.append(function_of(f, params, Folder(program, paper, f).fold_all(program.spots[f])))
    return Program(functions)


def check_place_within(program, paper, f, place):
    """The refusals of a program, a paper that the judge takes, a function and a place of it other than 1."""
    check_taken(program, paper)
    if not is_function_of(program, f):
        raise BadName(f)
    if not is_integer(place) or place == 1 or not 0 <= place < program.places[f]:
        raise BadPlace(place)


def is_dead(paper, f, place):
    """Whether nobody comes to a place of f, or, for place 1, f never returns."""
    return paper[2][f] is None if place == 1 else len(paper[3][f][place]) == 0


def known_at(paper, f, place, names):
    """The integers of those of the names that have just one in all cells of a place that are not empty."""
    shut = [close(zone) for zone in list(paper[3][f][place].values())]
    left = [zone for zone in shut if zone is not None]
    found = {}
    for name in names:
        strips = [strip_from(zone, name) for zone in left]
        if strips and strips[0][2] == 0 and all([strip == strips[0] for strip in strips]):
            found[name] = strips[0][3]
    return found


def answer(paper, f, place, condition):
    """Whether a condition always, never or either way holds at a place."""
    zones = list(paper[3][f][place].values())
    if all([close(hold(zone, ("not", condition))) is None for zone in zones]):
        return "always"
    if all([close(hold(zone, condition)) is None for zone in zones]):
        return "never"
    return "either"


class Folder:
    """Folds the statements of f by a paper, from outside in."""

    def __init__(self, program, paper, f):
        self.program = program
        self.paper = paper
        self.f = f

    def fold_all(self, spots):
        found = []
        for spot in spots:
            if not is_dead(self.paper, self.f, spot.place):
                found.extend(self.fold(spot))
        return tuple(found)

    def fold(self, spot):
        """What is left of a statement to which somebody comes: a list of statements."""
        word = spot.statement[0]
        told = None
        if word in ("if", "while", "assert", "assume"):
            told = answer(self.paper, self.f, spot.asked_at, spot.statement[1])
        if word == "if" and told != "either":
            return self.fold_all(spot.inner[0 if told == "always" else 1])
        if word == "while" and told == "never" or word in ("assert", "assume") and told == "always":
            return ()
        return (self.with_known(spot, [self.fold_all(spots) for spots in spot.inner]),)

    def with_known(self, spot, inner):
        """A statement with these lists within it, each name that it reads and that is known standing as its integer."""
        integers = known_at(self.paper, self.f, spot.asked_at, self.program.names[self.f])
        parts = {name: ("number", integers[name]) for name in integers}
        if not inner:
            return put_in(spot.statement, "s", parts)
        return (spot.statement[0], put_in(spot.statement[1], "c", parts), *inner)
