"""[9.9], and the last sentence of [9.10]: texts of papers."""

import random
import unittest

from everypath.errors import BadPaper, BadPaperText, BadProgram
from everypath.judge import judged
from everypath.papers import is_paper, things_of
from everypath.papertexts import paper_text, read_paper
from everypath.programs import Program
from tests.helpers import any_objects, refused, shape, told
from tests.samples import empty
from tests.test_judge import CALLS, SMALL, small_paper
from tests.test_loops import paper_of
from tests.zonesamples import random_zone
from tests.texts import main_of, program_in

TEXT = ("function main\nentry all\nexit 0 - = <= 0, = - 0 <= 3\n"
        "cell 0 - 0 - x <= 0, x - 0 <= 0, x = 0\ncell 2 - 0 - x <= 0, x - 0 <= 3")
PROGRAM = program_in("""def f(a, b) { c = a - b; if c < 0 { return b; } return c; }
                        def main() { x = any(0, 9); y = f(x, 3); assert y < 9; return y; } def lone() { return 0; }""")
CUTS = {"main": [("x", 3), ("y", -2)], "f": [("c", 0)], "lone": []}
ROWS = {0: [()], 1: [(0,), (1,)], 2: [(0, 0), (0, 1), (1, 0), (1, 1)]}


def random_paper(source):
    """Any paper of PROGRAM, with zones of all kinds."""
    paper = empty(PROGRAM, CUTS if source.random() < 0.7 else {})
    for f, params, _ in PROGRAM.functions():
        moduli = (0, 1, 1, 1, 2, 7, 10 ** 30)
        if source.random() < 0.7:
            paper[1][f] = random_zone(source, tuple(sorted(params)), 0.5, moduli)
        if source.random() < 0.7:
            paper[2][f] = random_zone(source, tuple(sorted(["=", *[x + "0" for x in params]])), 0.5, moduli)
        for place, cells in enumerate(paper[3][f]):
            for row in ROWS[len(paper[0][f])]:
                if place != 1 and source.random() < 0.5:
                    cells[row] = random_zone(source, tuple(things_of(PROGRAM, f)), source.random() / 2, moduli)
    return paper


def completions(program):
    """Lines with which texts may go on to their end."""
    rest = []
    names = [f for f, _, _ in program.functions()]
    for at in range(len(names) + 1):
        behind = [line for f in names[at:] for line in (f"function {f}", "entry none", "exit none")]
        rest += [behind, ["exit none", *behind], ["entry none", "exit none", *behind]]
    return rest


def is_text_of(program, text):
    try:
        paper = read_paper(program, text)
    except BadPaperText:
        return False
    return is_paper(program, paper) and paper_text(program, paper) == text


class PaperTextsTest(unittest.TestCase):
    def line_refused(self, program, text, line):
        with self.assertRaises(BadPaperText) as caught:
            read_paper(program, text)
        self.assertEqual(shape(caught.exception.line), shape(line), text)

    def check(self, program, text):
        """That a text is read as a paper with this very text, or refused with the right line."""
        try:
            self.assertEqual(paper_text(program, read_paper(program, text)), text)
            return True
        except BadPaperText as error:
            lines = text.split("\n")
            ahead, first = lines[:error.line], lines[error.line:error.line + 1]
            going = completions(program)
            self.assertTrue(any(is_text_of(program, "\n".join(ahead + rest)) for rest in going), text)
            if first:
                self.assertFalse(any(is_text_of(program, "\n".join(ahead + first + rest)) for rest in going), text)
            else:
                self.assertFalse(is_text_of(program, text))
            return False

    def test_example(self):
        self.assertEqual(told(self, paper_text, program=SMALL, paper=small_paper()), TEXT)
        self.assertEqual(shape(told(self, read_paper, program=SMALL, text=TEXT)), shape(small_paper()))
        self.assertIsNone(judged(SMALL, read_paper(SMALL, TEXT)))

    def test_all_papers_are_read_as_they_are_written(self):
        source = random.Random(1)
        for _ in range(40):
            paper = random_paper(source)
            text = paper_text(PROGRAM, paper)
            found = read_paper(PROGRAM, text)
            self.assertEqual(found, paper)
            self.assertEqual(paper_text(PROGRAM, found), text)
        paper = random_paper(source)
        text = told(self, paper_text, program=PROGRAM, paper=paper)
        self.assertEqual(shape(told(self, read_paper, program=PROGRAM, text=text)), shape(paper))

    def test_lines(self):
        paper = empty(PROGRAM, {"main": [("y", -12), ("x", 3)]})
        self.assertEqual(paper_text(PROGRAM, paper), "function f\nentry none\nexit none\nfunction main\ncut y -12\n"
                         "cut x 3\nentry none\nexit none\nfunction lone\nentry none\nexit none")
        paper[2]["f"] = (["=", "a0", "b0"], {("b0", "="): -1, ("0", "a0"): 7, ("=", "0"): 0},
                         {"=": (4, 3), "a0": (0, -5), "b0": (1, 0)})
        paper[1]["f"] = (["a", "b"], {}, {"a": (1, 0), "b": (1, 0)})
        rests = {"x": (2, 0), "y": (0, 0)}
        paper[3]["main"][3] = {(1, 0): (["x", "y"], {}, rests), (0, 1): (["x", "y"], {("y", "x"): -3}, rests)}
        paper[3]["main"][0] = {(1, 1): (["x", "y"], {}, {"x": (1, 0), "y": (1, 0)})}
        text = paper_text(PROGRAM, paper)
        self.assertEqual(text.split("\n")[:3], ["function f", "entry all", "exit 0 - a0 <= 7, = - 0 <= 0, "
                                                "b0 - = <= -1, = mod 4 = 3, a0 = -5"])
        self.assertEqual(text.split("\n")[8:11], ["cell 0 11 all", "cell 3 01 y - x <= -3, x mod 2 = 0, y = 0",
                                                  "cell 3 10 x mod 2 = 0, y = 0"])
        self.assertEqual(read_paper(PROGRAM, text), paper)

    def test_made_papers(self):
        for program, cuts in ((CALLS, {}), (CALLS, {"main": [("y", 2)], "sum": [("n", 1), ("k", 3)]})):
            paper = paper_of(program, cuts)
            text = paper_text(program, paper)
            self.assertEqual(read_paper(program, text), paper)
            self.assertIsNone(judged(program, read_paper(program, text)))

    def test_each_line_away_twice_or_in_another_place(self):
        source = random.Random(2)
        lines = paper_text(PROGRAM, random_paper(source)).split("\n")
        for at in range(0, len(lines), 2):
            self.check(PROGRAM, "\n".join(lines[:at]))
            self.check(PROGRAM, "\n".join(lines[:at] + lines[at + 1:]))
            self.assertFalse(self.check(PROGRAM, "\n".join(lines[:at + 1] + lines[at:])))
            for to in range(at % 3, len(lines), 3):
                other = lines[:at] + lines[at + 1:]
                other.insert(to, lines[at])
                if to != at and (lines[at][:3] != "cut" or other[at][:3] != "cut"):
                    self.assertFalse(self.check(PROGRAM, "\n".join(other)))

    def test_each_sign_away_more_or_another_one(self):
        text = paper_text(PROGRAM, random_paper(random.Random(3)))
        kept = 0
        for program, whole, apart in ((SMALL, TEXT, 1), (PROGRAM, text, len(text) // 40)):
            for at in range(0, len(whole) + 1, apart):
                for sign in " \n0x-=":
                    kept += self.check(program, whole[:at] + sign + whole[at:])
                    kept += self.check(program, whole[:at] + sign + whole[at + 1:])
                kept += self.check(program, whole[:at] + whole[at + 1:])
        self.assertGreater(kept, 10)

    def test_signs_behind_and_within(self):
        for at in range(len(TEXT)):
            self.check(SMALL, TEXT[:at])
        self.line_refused(SMALL, TEXT + "\n", 5)
        self.line_refused(SMALL, TEXT + " ", 4)
        self.line_refused(SMALL, "\n" + TEXT, 0)
        self.line_refused(SMALL, " " + TEXT, 0)
        self.line_refused(SMALL, TEXT.replace("\n", "\n\n"), 1)
        self.line_refused(SMALL, TEXT.replace("\n", "\r\n"), 0)
        self.line_refused(SMALL, TEXT + "\n" + TEXT, 5)
        self.line_refused(SMALL, "", 0)
        self.line_refused(SMALL, "function main", 1)
        self.line_refused(SMALL, "function main\nentry none", 2)
        self.assertEqual(read_paper(SMALL, "function main\nentry none\nexit none"), empty(SMALL, {}))

    def test_numerals(self):
        for good in ("0", "7", "-7", "10", "-" + "9" * 30, "1" + "0" * 4000, "1" + "0" * 9000):
            text = TEXT.replace("<= 3", "<= " + good)
            self.assertEqual(paper_text(SMALL, read_paper(SMALL, text)), text)
            text = TEXT.replace("x = 0", "x = " + good)
            self.assertEqual(paper_text(SMALL, read_paper(SMALL, text)), text)
            text = TEXT.replace("\nentry", f"\ncut x {good}\nentry").replace(" - 0 -", " 0 0 -")
            self.assertEqual(paper_text(SMALL, read_paper(SMALL, text)), text)
        self.assertEqual(read_paper(SMALL, TEXT.replace("<= 3", "<= 1" + "0" * 30))[2]["main"][1][("=", "0")], 10 ** 30)
        for bad in ("00", "07", "-0", "-07", "+7", "", "-", "7 ", "x", "1_0", "\u0663", "\u00b2", "7.", "--7", "- 7"):
            self.line_refused(SMALL, TEXT.replace("<= 3", "<= " + bad), 2)
            self.line_refused(SMALL, TEXT.replace("x = 0", "x = " + bad), 3)
            self.line_refused(SMALL, TEXT.replace("\nentry", f"\ncut x {bad}\nentry"), 1)
        self.line_refused(SMALL, TEXT.replace("x = 0", "x = " + "0" + "1" * 20000), 3)

    def test_what_a_zone_would_not_have(self):
        def last(words):
            return TEXT[:TEXT.rindex("-", 0, TEXT.rindex("x <= 0")) - 2] + words

        self.assertEqual(last("0 - x <= 0, x - 0 <= 3"), TEXT)
        for good in ("all", "x mod 2 = 0", "x mod 9 = 8", "x = -4", "x - 0 <= 3, x mod 3 = 1"):
            self.assertTrue(is_text_of(SMALL, last(good)), good)
        for bad in ("none", "", " ", "all, x = 0", "x = 0, all", "x mod 1 = 0", "x mod 0 = 0", "x mod 3 = 3",
                    "x mod 3 = -1", "x mod -3 = 1", "x mod 3 = 01", "x - x <= 0", "0 - 0 <= 1", "y - 0 <= 0", "y = 0",
                    "0 = 0", "0 mod 2 = 0", "x - 0 <= 3, 0 - x <= 0", "x - 0 <= 3, x - 0 <= 3", "x = 0, x - 0 <= 3",
                    "x = 0, x = 0", "x = 0,x = 0", "x - 0 < 3", "x  - 0 <= 3", "x - 0 <= 3,", "x - 0 <= 3, ", "x",
                    "0 - x <= 0,  x - 0 <= 3", "x=0", "x mod 2 = 0, x = 4", "= = 0", "x - 0 <= 3 ,x = 0", "ALL"):
            self.line_refused(SMALL, last(bad), 4)

    def test_lines_that_no_paper_has(self):
        def with_line(line, at=3):
            lines = TEXT.split("\n")
            return "\n".join(lines[:at] + [line] + lines[at:])

        for bad in ("cell 1 - all", "cell 4 - all", "cell 00 - all", "cell -1 - all", "cell 0  all", "cell 0 0 all",
                    "cell 0 -", "cell 0 - ", "cell 0 -- all", "cell  0 - all", "cells 0 - all", "Cell 0 - all", "entry all",
                    "exit all", "cut x 3", "function main", "function other", "", "cell", "cell 0"):
            self.line_refused(SMALL, with_line(bad), 3)
        for bad in ("cut y 3", "cut x", "cut x 3 ", "cut  x 3", "cut x 3 4", "exit all", "cell 0 - all", "function main"):
            self.line_refused(SMALL, with_line(bad, 1), 1)
        self.line_refused(SMALL, "function main\ncut x 3\ncut x 3\nentry none\nexit none", 2)
        cut = "function main\ncut x 3\ncut x 4\nentry none\nexit none\n"
        self.assertTrue(is_text_of(SMALL, cut + "cell 0 01 all\ncell 0 10 all\ncell 3 00 all"))
        for bad in ("cell 0 - all", "cell 0 0 all", "cell 0 011 all", "cell 0 02 all", "cell 0 0 1 all", "cell 0 -1 all"):
            self.line_refused(SMALL, cut + bad, 5)
        self.line_refused(SMALL, cut + "cell 0 10 all\ncell 0 01 all", 6)
        self.line_refused(SMALL, cut + "cell 2 10 all\ncell 0 11 all", 6)
        self.line_refused(PROGRAM, "function main", 0)
        self.line_refused(PROGRAM, "function f\nentry none\nfunction main", 2)
        self.line_refused(PROGRAM, "function f\nentry none\nexit none\nfunction lone", 3)
        self.line_refused(PROGRAM, "function f\nentry none\nexit none\nfunction main\nentry none\nexit none", 6)

    def test_long_texts(self):
        names = "abcdefgh"
        program = main_of(" ".join(f"{x} = any(0, 9);" for x in names) + " while a < 9 { " + "a = b; " * 12 + "}")
        source = random.Random(4)
        paper = empty(program, {"main": [("a", 3), ("b", 4)]})
        for cells in [part for at, part in enumerate(paper[3]["main"]) if at not in (1, 3)]:
            for row in ROWS[2]:
                cells[row] = random_zone(source, tuple(names), 0.9, (1, 10 ** 6))
        text = paper_text(program, paper)
        self.assertGreater(len(text), 60000)
        self.assertEqual(read_paper(program, text), paper)
        self.line_refused(program, text + " ", text.count("\n"))

    def test_refusals(self):
        for thing in any_objects():
            if not isinstance(thing, Program):
                refused(self, BadProgram, thing, paper_text, thing, None)
                refused(self, BadProgram, thing, read_paper, thing, None)
            refused(self, BadPaper, thing, paper_text, SMALL, thing)
            if not isinstance(thing, str):
                self.line_refused(SMALL, thing, 0)


if __name__ == "__main__":
    unittest.main()
