"""Papers as texts, line by line."""

from everypath.errors import BadPaperText
from everypath.kinds import is_text
from everypath.numerals import written_integer
from everypath.papers import check_paper
from everypath.paperlines import PaperLines, words_of_zone
from everypath.programs import check_program


def paper_text(program, paper):
    check_program(program)
    check_paper(program, paper)
    lines = []
    for f in program.params:
        lines.extend(lines_of(paper, f))
    return "\n".join(lines)


def read_paper(program, text):
    check_program(program)
    if not is_text(text):
        raise BadPaperText(0)
    lines = text.split("\n")
    reader = PaperLines(program)
    for at, line in enumerate(lines):
        if not reader.goes_on_with(line):
            raise BadPaperText(at)
    if not reader.is_whole():
        raise BadPaperText(len(lines))
    return reader.cuts, reader.entries, reader.exits, reader.cells


def lines_of(paper, f):
    """The lines of one function."""
    cuts, entries, exits, cells = paper
    found = [f"function {f}"]
    found.extend([f"cut {x} {written_integer(n)}" for x, n in cuts[f]])
    found.append(f"entry {words_or_none(entries[f])}")
    found.append(f"exit {words_or_none(exits[f])}")
    for place, rows in enumerate(cells[f]):
        found.extend([f"cell {place} {written_sides(sides)} {words_of_zone(rows[sides])}" for sides in sorted(rows)])
    return found


def words_or_none(zone):
    return "none" if zone is None else words_of_zone(zone)


def written_sides(sides):
    return "".join([str(side) for side in sides]) if sides else "-"
