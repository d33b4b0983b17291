"""Lines of papers: the words of zones, and lines taken one behind another."""

from everypath.numerals import integer_of, is_numeral, is_written_integer, number_of, written_integer
from everypath.papers import all_things, entry_things, exit_things
from everypath.rests import ANY

# how far the lines of a function are told
CUTS = 0
ENTRY = 1
CELLS = 2


def words_of_zone(zone):
    things, bounds, rests = zone
    words = [f"{u} - {v} <= {written_integer(bounds[(u, v)])}" for u, v in sorted(bounds)]
    for thing in things:
        modulus, remainder = rests[thing]
        if modulus == 0:
            words.append(f"{thing} = {written_integer(remainder)}")
        elif modulus > 1:
            words.append(f"{thing} mod {written_integer(modulus)} = {written_integer(remainder)}")
    return ", ".join(words) if words else "all"


class PaperLines:
    """Takes the lines of a paper's text, as long as some text goes on with them; what they tell is the paper."""

    def __init__(self, program):
        self.program = program
        self.functions_to_come = list(program.params)
        self.many_begun = 0
        self.stage = CELLS
        self.last = None
        self.cuts = {}
        self.entries = {}
        self.exits = {}
        self.cells = {}

    def goes_on_with(self, line):
        """Takes a line; False if no text goes on with it."""
        word, _, rest = line.partition(" ")
        if word == "function":
            return self.takes_function(rest)
        if self.many_begun == 0:
            return False
        f = self.functions_to_come[self.many_begun - 1]
        if word == "cut":
            return self.stage == CUTS and self.takes_cut(f, rest)
        if word == "entry":
            return self.stage == CUTS and self.takes_zone(self.entries, f, rest, entry_things(self.program, f))
        if word == "exit":
            return self.stage == ENTRY and self.takes_zone(self.exits, f, rest, exit_things(self.program, f))
        return word == "cell" and self.stage == CELLS and self.takes_cell(f, rest)

    def is_whole(self):
        return self.many_begun == len(self.functions_to_come) and self.stage == CELLS

    def takes_function(self, f):
        if self.stage != CELLS or self.functions_to_come[self.many_begun:self.many_begun + 1] != [f]:
            return False
        self.many_begun += 1
        self.stage = CUTS
        self.last = None
        self.cuts[f] = []
        self.cells[f] = [{} for _ in range(self.program.places[f])]
        return True

    def takes_cut(self, f, text):
        x, _, number = text.partition(" ")
        if x not in self.program.names[f] or not is_written_integer(number):
            return False
        cut = (x, integer_of(number))
        if cut in self.cuts[f]:
            return False
        self.cuts[f].append(cut)
        return True

    def takes_zone(self, zones, f, words, things):
        """Takes the zone at an entry or an exit."""
        zones[f] = None if words == "none" else zone_of_words(words, things)
        self.stage += 1
        return words == "none" or zones[f] is not None

    def takes_cell(self, f, text):
        number, _, rest = text.partition(" ")
        digits, _, words = rest.partition(" ")
        if not is_numeral(number):
            return False
        place, sides = number_of(number), sides_of_digits(digits, len(self.cuts[f]))
        if sides is None or place == 1 or place >= self.program.places[f]:
            return False
        if self.last is not None and (place, sides) <= self.last:
            return False
        zone = zone_of_words(words, all_things(self.program, f))
        self.last = (place, sides)
        self.cells[f][place][sides] = zone
        return zone is not None


def sides_of_digits(digits, many):
    """The row of so many sides that is written so, None if there is none."""
    if many == 0:
        return () if digits == "-" else None
    if len(digits) != many or not all([digit in "01" for digit in digits]):
        return None
    return tuple([int(digit) for digit in digits])


def zone_of_words(words, things):
    """The zone over these things that has these words, None if there is none."""
    bounds, rests = {}, {}
    parts = [] if words == "all" else [part.split(" ") for part in words.split(", ")]
    for part in parts:
        if not takes_bound(part, things, bounds, rests) and not takes_rest(part, things, rests):
            return None
    return list(things), bounds, {thing: rests.get(thing, ANY) for thing in things}


def takes_bound(part, things, bounds, rests):
    """Takes the words of a bound, which stand ahead of all rests; False if they are none, or not the next ones."""
    if len(part) != 5 or part[1] != "-" or part[3] != "<=" or not is_written_integer(part[4]):
        return False
    pair = (part[0], part[2])
    if pair[0] == pair[1] or not all([node == "0" or node in things for node in pair]):
        return False
    if rests or bounds and pair <= list(bounds)[-1]:
        return False
    bounds[pair] = integer_of(part[4])
    return True


def takes_rest(part, things, rests):
    """Takes the words of a rest; False if they are none, or not the next ones."""
    if part[0] not in things or rests and part[0] <= list(rests)[-1]:
        return False
    if len(part) == 3 and part[1] == "=" and is_written_integer(part[2]):
        rests[part[0]] = (0, integer_of(part[2]))
        return True
    if len(part) != 5 or part[1] != "mod" or part[3] != "=" or not is_numeral(part[2]) or not is_numeral(part[4]):
        return False
    rest = (number_of(part[2]), number_of(part[4]))
    rests[part[0]] = rest
    return rest[0] > 1 and rest[1] < rest[0]
