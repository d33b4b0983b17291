"""[3.3] to [3.5]: programs read from texts and written as texts."""

import random
import re
import unittest

from everypath.errors import BadFunctions, BadProgram, BadText
from everypath.programs import Program
from everypath.reading import read
from everypath.writing import written
from tests.helpers import (P_FUNCTIONS, X, Y, add, any_objects, both, div, either, eq, le, lt, mod, name, ne, no, num, p_program,
                           program_of, refused, shape, sub, times, told)
from tests.test_forms import random_expression
from tests.test_paths import random_program
from tests.test_zonesteps import random_condition
from tests.texts import program_in

P_TEXT = ("def half(a) { return a // 2; } def main() { x = any(0, 20); y = half(x); if y > 7 { y = y - x; } "
          "assert y + x != 9; while x > 4 { x = x - 3; } return x; }")
ALL = ("def f(a, b) { c = 2 * a - -3 * (b + 1) // 4 mod 5; d = any(-5, 5); c = f(c, 0); c = g(); "
       "while [c <= 3 or not d == 1] and c >= -7 { if a != 2 or 1 < b { } else { print b // 1; } if a > b { assert not not a < 3; } } "
       "assume 0 <= 0; return (((d))); } def main() { } def g() { x = 1; print x * 1 } ").replace(" * 1 }", "; }")
WORDS = ("def", "if", "else", "while", "assert", "assume", "return", "print", "any", "and", "or", "not", "mod")
PIECES = WORDS + ("(", ")", "{", "}", "[", "]", ",", ";", "=", "==", "!=", "<", "<=", ">", ">=", "+", "-", "*", "//", "0", "7", "x",
                  "main", "abcdefghi", "!", "/", "#", "X", "_", ".", "%", ":", "'", "\u00e9", "\u0663")


def tokens(text):
    """(place, token) of a right text."""
    return [(found.start(), found.group()) for found in
            re.finditer(r"[a-z]+|0|[1-9][0-9]*|==|!=|<=|>=|//|[(){}\[\],;=<>+*-]", text)]


# the grammar as [3.3] words it; what no rule has is a token
RULES = {
    "program": ["function", "program function"],
    "function": ["def name ( names ) { statements }"],
    "names": ["", "named"], "named": ["name", "named , name"],
    "statements": ["", "statements statement"],
    "statement": ["name = expression ;", "name = any ( integer , integer ) ;", "name = name ( handed ) ;", "if condition { statements }",
                  "if condition { statements } else { statements }", "while condition { statements }", "assert condition ;",
                  "assume condition ;", "print expression ;", "return expression ;"],
    "handed": ["", "expressions"], "expressions": ["expression", "expressions , expression"],
    "integer": ["numeral", "- numeral"],
    "expression": ["product", "expression + product", "expression - product"],
    "product": ["piece", "product // divisor", "product mod divisor"],
    "piece": ["integer", "integer * piece", "name", "( expression )"],
    "condition": ["clause", "condition or clause"], "clause": ["fact", "clause and fact"],
    "fact": ["not fact", "[ condition ]"] + [f"expression {sign} expression" for sign in ("==", "!=", "<", "<=", ">", ">=")]}


def fits(wanted, token):
    if wanted == "name":
        return token.isalpha() and token.islower() and token.isascii() and len(token) <= 8 and token not in WORDS
    if wanted in ("numeral", "divisor"):
        return token.isascii() and token.isdigit() and (wanted == "numeral" or token != "0")
    return wanted == token


def stop_of(row):
    """The index of the first token that no text goes on with, by all rules at once; None if the whole row is a text."""
    columns = [closure([], [("program", tuple(rule.split()), 0, 0) for rule in RULES["program"]], 0)]
    for at, token in enumerate(row):
        moved = [(head, rule, dot + 1, start) for head, rule, dot, start in columns[-1]
                 if dot < len(rule) and rule[dot] not in RULES and fits(rule[dot], token)]
        if not moved:
            return at
        columns.append(closure(columns, moved, at + 1))
    if any(head == "program" and dot == len(rule) and start == 0 for head, rule, dot, start in columns[-1]):
        return None
    return len(row)


def closure(columns, items, at):
    found = dict.fromkeys(items)
    waiting = list(items)
    while waiting:
        head, rule, dot, start = waiting.pop()
        more = []
        if dot == len(rule):
            back = columns[start] if start < len(columns) else list(found)
            more = [(h, r, d + 1, s) for h, r, d, s in back if d < len(r) and r[d] == head]
        elif rule[dot] in RULES:
            more = [(rule[dot], tuple(part.split()), 0, at) for part in RULES[rule[dot]]]
            if "" in RULES[rule[dot]]:
                more.append((head, rule, dot + 1, start))
        for item in more:
            if item not in found:
                found[item] = None
                waiting.append(item)
    return list(found)


def works(text):
    try:
        read(text)
    except BadText:
        return False
    except BadFunctions:
        pass
    return True


class ReadingTest(unittest.TestCase):
    def refused_at(self, text, place):
        with self.assertRaises(BadText) as caught:
            read(text)
        self.assertEqual(shape(caught.exception.place), shape(place), repr(text)[:300])

    def statement_refused(self, text, part):
        """That main with these statements is refused where part begins, which stands there but once."""
        whole = "def main() { " + text + " }"
        self.assertEqual(text.count(part), 1, (text, part))
        self.refused_at(whole, whole.index(text) + text.index(part))

    def reads(self, text, *statements):
        self.assertEqual(shape(read("def main() { " + text + " }").functions()), shape([("main", [], list(statements))]))

    def test_example(self):
        program = read(text=P_TEXT)
        self.assertEqual(shape(program.functions()), shape(P_FUNCTIONS))
        self.assertEqual(shape(program.functions()[1][2][2]), shape(("if", lt(num(7), Y), [("set", "y", sub(Y, X))], [])))
        self.refused_at("def f ( ) { x = 1 + }", 20)
        self.assertEqual(written(program=program), "def half ( a ) { return a // 2 ; } def main ( ) { x = any ( 0 , 20 ) ; "
                         "y = half ( x ) ; if 7 < y { y = y - x ; } assert y + x != 9 ; while 4 < x { x = x - 3 ; } return x ; }")

    def test_statements(self):
        self.reads("x = 1; x = any(-3, 4); x = main(); print x; return 0;", ("set", "x", num(1)), ("any", "x", -3, 4),
                   ("call", "x", "main", []), ("print", X), ("return", num(0)))
        self.reads("assert 1 < 2; assume 1 == 2; while 1 <= 2 { } if 1 != 2 { } else { x = 0; }", ("assert", lt(num(1), num(2))),
                   ("assume", eq(num(1), num(2))), ("while", le(num(1), num(2)), []),
                   ("if", ne(num(1), num(2)), [], [("set", "x", num(0))]))
        self.reads("if 1 < 2 { if 2 < 1 { } } else { }", ("if", lt(num(1), num(2)), [("if", lt(num(2), num(1)), [], [])], []))
        self.reads("x = any(0, 0); x = any(-0, -0); x = any(-9, -9);", ("any", "x", 0, 0), ("any", "x", 0, 0), ("any", "x", -9, -9))
        self.reads("x = x;", ("set", "x", X))
        functions = read("def f(a, b) { x = f(a + 1, -b * 0); } def main() { }".replace("-b * 0", "-2 * b")).functions()
        self.assertEqual(functions[0], ("f", ["a", "b"], [("call", "x", "f", [add(name("a"), num(1)), times(-2, name("b"))])]))

    def test_expressions(self):
        x = ("set", "x", num(0))
        for text, found in (
                ("1 + 2 - 3", sub(add(num(1), num(2)), num(3))), ("1 - (2 - 3)", sub(num(1), sub(num(2), num(3)))),
                ("x // 2 mod 3", mod(div(X, 2), 3)), ("2 * x // 3", div(times(2, X), 3)), ("2 * (x // 3)", times(2, div(X, 3))),
                ("2 * 3 * x", times(2, times(3, X))), ("2 * 3", times(2, num(3))), ("-2 * x", times(-2, X)), ("-2", num(-2)), ("x - -2", sub(X, num(-2))),
                ("x--2", sub(X, num(-2))), ("x-2", sub(X, num(2))), ("x - 2 * x", sub(X, times(2, X))), ("((x))", X), ("(x + 1) mod 2", mod(add(X, num(1)), 2)),
                ("x + 1 mod 2", add(X, mod(num(1), 2))), ("-7 // 2", div(num(-7), 2)), ("2 * (x)", times(2, X)), ("0 * x", times(0, X)), ("-0", num(0)),
                ("(x) // 1", div(X, 1)), ("- 5 * - 3 * x", times(-5, times(-3, X))), ("1 - x - 2", sub(sub(num(1), X), num(2))),
                ("x mod 10 // 3 + 1", add(div(mod(X, 10), 3), num(1)))):
            self.reads(f"x = 0; print {text};", x, ("print", found))
            self.reads(f"x = 0; x = {text};", x, ("set", "x", found))

    def test_conditions(self):
        a, b, c = lt(num(1), num(2)), le(num(3), num(4)), eq(num(5), num(6))
        for text, found in (
                ("1 < 2", a), ("2 > 1", a), ("4 >= 3", b), ("3 <= 4", b), ("5 == 6", c), ("1 != 2", ne(num(1), num(2))),
                ("1 < 2 or 3 <= 4 or 5 == 6", either(either(a, b), c)), ("1 < 2 and 3 <= 4 and 5 == 6", both(both(a, b), c)),
                ("1 < 2 or 3 <= 4 and 5 == 6", either(a, both(b, c))), ("[1 < 2 or 3 <= 4] and 5 == 6", both(either(a, b), c)),
                ("not 1 < 2 and 3 <= 4", both(no(a), b)), ("not [1 < 2 and 3 <= 4]", no(both(a, b))), ("not not 5 == 6", no(no(c))),
                ("[[1 < 2]]", a), ("1 < 2 or [3 <= 4 or 5 == 6]", either(a, either(b, c))), ("not [1 < 2]", no(a)),
                ("(1) < (2)", a), ("1 + 0 > 1 and not 2 > 1", both(lt(num(1), add(num(1), num(0))), no(a)))):
            self.reads(f"assert {text};", ("assert", found))
            self.reads(f"while {text} {{ }}", ("while", found, []))

    def test_blanks(self):
        close = re.sub(r" (?=[^a-z0-9])|(?<=[^a-z0-9]) ", "", re.sub(r" +", " ", P_TEXT))
        self.assertNotIn(" {", close)
        self.assertEqual(read(close), p_program())
        self.assertEqual(read("def f(){}def main(){x=1//2;y=x;if x<y{}else{}whil=3;x=2mod 3;x=2mod3;}").functions()[1][2][-1],
                         ("set", "x", mod(num(2), 3)))
        apart = "\n \n".join(token for _, token in tokens(P_TEXT))
        self.assertEqual(read(f" \n{apart}\n\n "), p_program())
        for at, (place, token) in enumerate(tokens(ALL)):
            self.assertEqual(read(ALL[:place] + " \n " + ALL[place:]), read(ALL))
            if len(token) > 1:
                broken = ALL[:place + 1] + "\n" + ALL[place + 1:]
                self.assertNotEqual(tokens(broken), tokens(ALL))
        for blank in ("\t", "\r", "\x0b", "\u00a0", "\x00", "\u2028"):
            self.refused_at(blank + P_TEXT, 0)
            self.refused_at(P_TEXT + blank, len(P_TEXT))
            self.refused_at(P_TEXT.replace(" ", blank, 1), 3)

    def test_tokens_part_where_they_change(self):
        self.statement_refused("x1 = 3;", "1")
        self.statement_refused("x = 3y;", "y")
        self.statement_refused("x = 00;", "0;")
        self.statement_refused("x = 07;", "7")
        self.statement_refused("x = 10 01;", "01")
        self.statement_refused("x = y = 3;", "= 3")
        self.statement_refused("assert 1 = = 2;", "= =")
        self.statement_refused("assert 1 === 2;", "= 2")
        self.statement_refused("assert 1 <== 2;", "= 2")
        self.statement_refused("assert 1 =< 2;", "=<")
        self.statement_refused("assert 1 ! 2;", "!")
        self.statement_refused("assert 1 !2;", "!")
        self.statement_refused("x = 4 / 2;", "/")
        self.statement_refused("x = 4 ///2;", "/2")
        self.statement_refused("xABC = 3;", "ABC")
        self.statement_refused("x = 3.5;", ".")
        self.reads("print 2mod3;", ("print", mod(num(2), 3)))

    def test_names(self):
        for word in WORDS:
            self.refused_at(f"def {word}() {{ }}", 4)
            self.refused_at(f"def f({word}) {{ }}", 6)
            self.refused_at(f"def f(a, {word}) {{ }}", 9)
            if word not in ("if", "while", "assert", "assume", "return", "print"):
                self.refused_at(f"def main() {{ {word} = 3; }}", 13)
            if word not in ("any", "not"):
                self.refused_at(f"def main() {{ x = {word}; }}", 17)
            self.refused_at(f"def main() {{ x = 1 + {word}; }}", 21)
            if word != "not":
                self.refused_at(f"def main() {{ assert {word} < 1; }}", 20)
        for long in ("abcdefghi", "definition", "mainmainmain"):
            self.refused_at(f"def {long}() {{ }}", 4)
            self.refused_at(f"def f({long}) {{ }}", 6)
            self.statement_refused(f"{long} = 3;", long)
            self.statement_refused(f"x = {long};", long)
            self.statement_refused(f"x = {long}();", long)
            self.statement_refused(f"print 2 * {long};", long)
        self.reads("abcdefgh = 3; iff = 1; anyx = 2; de = 1; x = 1;", *[("set", x, num(n)) for x, n in
                                                                        (("abcdefgh", 3), ("iff", 1), ("anyx", 2), ("de", 1), ("x", 1))])

    def test_numerals(self):
        great = "9" * 4000
        self.reads(f"print {great};", ("print", num(10 ** 4000 - 1)))
        self.assertEqual(written(read(f"def main() {{ print -{great}; }}")), f"def main ( ) {{ print - {great} ; }}")
        self.reads("print 1" + "0" * 9999 + ";", ("print", num(10 ** 9999)))
        self.statement_refused(f"x = any(0, -{great});", great)
        self.refused_at(f"def main() {{ print {great}0{great}; ;", 13 + 6 + 8001 + 2)
        self.statement_refused("x = any(3, 2);", "2")
        self.statement_refused("x = any(3, -4);", "4")
        self.statement_refused("x = any(-3, -4);", "4")
        self.statement_refused("x = any(-1, -11);", "11")
        self.statement_refused("x = any(1, 0);", "0")
        self.statement_refused("x = any(0, -1);", "1")
        self.statement_refused("x = y // 0;", "0")
        self.statement_refused("x = y mod 0;", "0")
        self.statement_refused("x = y // -2;", "-")
        self.statement_refused("x = y mod (2);", "(")
        self.statement_refused("x = y // z;", "z")
        self.statement_refused("x = 2 * y * 3;", "* 3")
        self.statement_refused("x = y * 3;", "*")
        self.statement_refused("x = (y) * 3;", "*")
        self.statement_refused("x = -y;", "y")
        self.statement_refused("x = - -3;", "-3")
        self.statement_refused("x = +3;", "+")
        self.statement_refused("x = any(y, 3);", "y,")
        self.statement_refused("x = any(1 + 1, 3);", "+")
        self.statement_refused("x = any(1);", ")")
        self.statement_refused("x = any(1, 2, 3);", ", 3")

    def test_brackets(self):
        self.statement_refused("x = [1];", "[")
        self.statement_refused("x = (1;", ";")
        self.statement_refused("x = 1);", ")")
        self.statement_refused("assert (1 < 2);", "< 2")
        self.statement_refused("assert [1] < 2;", "] <")
        self.statement_refused("assert [1 < 2;", ";")
        self.statement_refused("assert 1 < 2];", "]")
        self.statement_refused("assert [1 < 2) ;", ")")
        self.statement_refused("if 1 < 2 ( )", "( ")
        self.statement_refused("while 1 < 2 ;", ";")
        self.statement_refused("x = f[1];", "[")
        self.statement_refused("x = f(1,);", ")")
        self.statement_refused("x = f(,1);", ",")
        self.statement_refused("x = f(1 2);", "2")
        self.statement_refused("x = f() + 1;", "+")
        self.statement_refused("x = 1 + f();", "();")
        self.statement_refused("print f(1);", "(1")
        self.statement_refused("{ x = 1; }", "{")
        self.statement_refused("x = 1; ; x = 2;", "; x = 2")
        self.statement_refused("else { }", "else")
        self.statement_refused("if 1 < 2 { } else if 2 < 1 { }", "if 2")
        self.statement_refused("assert 1 < 2 < 3;", "< 3")
        self.statement_refused("assert 1;", ";")
        self.statement_refused("assert not;", ";")
        self.statement_refused("assert 1 < 2 and;", ";")
        self.statement_refused("return;", ";")
        self.statement_refused("f(1);", "(")
        self.refused_at("def f(a,) { }", 8)
        self.refused_at("def f(1) { }", 6)
        self.refused_at("def f() ;", 8)
        self.refused_at("x = 1;", 0)
        self.refused_at("def main() { } }", 15)
        self.refused_at("def main() { } x", 15)

    def test_deep_ones(self):
        for many in (60, 3000):
            self.reads("x = 1; print " + "(" * many + "x" + ")" * many + ";", ("set", "x", num(1)), ("print", X))
            self.assertEqual(len(read("def main() { assert " + "[" * many + "1 < 2" + "]" * many + "; }").functions()), 1)
            self.refused_at("def main() { print " + "(" * many + "1" + ")" * (many - 1) + ";", 19 + 2 * many)
            self.refused_at("def main() { print " + "(" * many + "1" + ")" * (many + 1), 19 + 2 * many + 1)
            self.refused_at("def main() { assert " + "[" * many + "1 < 2" + "]" * (many - 1) + ";", 20 + 2 * many + 4)
            self.refused_at("def main() { assert " + "not " * many + ";", 20 + 4 * many)
            self.refused_at("def main() { " + "if 1 < 2 { " * many + ")", 13 + 11 * many)
        text = "def main() { assert " + "not " * 60 + "1 < 2; }"
        self.assertEqual(read(written(read(text))), read(text))
        self.refused_at("def main() { print " + "2 * " * 4000 + ";", 19 + 16000)
        self.refused_at("def main() { " + "x = x + 1; " * 1800 + "]", 13 + 11 * 1800)

    def test_ends(self):
        self.refused_at("", 0)
        self.refused_at("  \n ", 4)
        for at in range(len(P_TEXT)):
            # a word or sign that is cut may be another token, with which no text goes on
            cut = [place for place, token in tokens(P_TEXT) if place < at < place + len(token)]
            if works(P_TEXT[:at]):
                self.assertEqual(P_TEXT[:at].strip()[-1], "}")
            else:
                self.assertIn(self.place_of(P_TEXT[:at]), [at, *cut])

    def test_a_sign_that_begins_no_token_at_each_place(self):
        for sign in "#!/.X_%\t\u00e9":
            for at in range(len(P_TEXT) + 1):
                cut = [place for place, token in tokens(P_TEXT) if place < at < place + len(token)]
                text = P_TEXT[:at] + sign + P_TEXT[at:]
                whole = {"!": text[at:at + 2] == "!=", "/": "//" in text[max(0, at - 1):at + 2]}.get(sign, False)
                if not whole:
                    # a word that is cut may be refused itself
                    self.assertIn(self.place_of(text), [at, *cut], (sign, at))
                    if not cut:
                        self.assertEqual(self.place_of(text), at, (sign, at))

    def place_of(self, text):
        with self.assertRaises(BadText) as caught:
            read(text)
        return caught.exception.place

    def check_row(self, row):
        """That a row of tokens is refused just at the one that no text goes on with; of any ranges not looked at."""
        text = " ".join(row)
        places = [len(" ".join(row[:at])) + (at > 0) for at in range(len(row))] + [len(text)]
        stop = stop_of(row)
        try:
            read(text)
            self.assertIsNone(stop, text)
        except BadFunctions:
            self.assertIsNone(stop, text)
        except BadText as error:
            self.assertIsNotNone(stop, text)
            self.assertEqual(error.place, places[stop], text)
        return stop is None

    def test_no_text_goes_on(self):
        source = random.Random(1)
        whole = [token for _, token in tokens(ALL)]
        self.assertTrue(self.check_row(whole))
        for at in range(len(whole)):
            self.check_row(whole[:at])
            for piece in source.sample(PIECES, 5):
                self.check_row(whole[:at] + [piece] + whole[at:])
                self.check_row(whole[:at] + [piece] + whole[at + 1:])
            self.check_row(whole[:at] + whole[at + 1:])
        for at in range(1, len(whole)):
            self.check_row(whole[:at - 1] + [whole[at], whole[at - 1]] + whole[at + 1:])
        for _ in range(150):
            self.check_row(["def", "main", "(", ")", "{"] + [source.choice(PIECES[:34]) for _ in range(6)])

    def test_like_another_reader(self):
        source = random.Random(2)
        for _ in range(200):
            program = random_program(source)
            text = written(program)
            self.assertEqual(program_in(text), program)
            self.assertEqual(read(text), program)
        for _ in range(300):
            expression = random_expression(source, source.randrange(1, 20))
            condition = random_condition(source, 4, "xyz")
            program = program_of(*[("set", x, num(0)) for x in "xyz"], ("print", expression), ("assert", condition))
            text = written(program)
            self.assertEqual(read(text), program)
            self.assertEqual(program_in(text), program)
            self.assertEqual(written(read(text)), text)

    def test_functions_are_refused_behind_the_text(self):
        for text, index in (("def f() { }", 1), ("def f() { } def f() { } def main() { }", 1), ("def main(a) { }", 1),
                            ("def main() { x = y; }", 0), ("def main() { x = f(); }", 0), ("def f(a, a) { } def main() { }", 0),
                            ("def main() { } def f() { x = main(1); }", 1), ("def main() { print x; }", 0)):
            with self.assertRaises(BadFunctions) as caught:
                read(text)
            self.assertEqual(shape(caught.exception.index), shape(index))
            self.refused_at(text + ")", len(text))

    def test_written_brackets(self):
        def text_of(*statements):
            found = written(program_of(*[("set", x, num(0)) for x in "xy"], *statements))
            self.assertTrue(found.startswith("def main ( ) { x = 0 ; y = 0 ; ") and found.endswith(" }"))
            return found[len("def main ( ) { x = 0 ; y = 0 ; "):-2]

        for expression, text in (
                (add(X, add(X, Y)), "x + ( x + y )"), (sub(X, sub(X, Y)), "x - ( x - y )"), (sub(add(X, Y), X), "x + y - x"),
                (add(X, sub(Y, X)), "x + ( y - x )"), (add(X, div(Y, 2)), "x + y // 2"), (sub(X, times(2, Y)), "x - 2 * y"),
                (times(2, add(X, Y)), "2 * ( x + y )"), (times(-2, div(X, 3)), "- 2 * ( x // 3 )"), (times(2, mod(X, 3)), "2 * ( x mod 3 )"),
                (times(2, times(3, X)), "2 * 3 * x"), (times(2, num(-3)), "2 * - 3"), (div(add(X, Y), 2), "( x + y ) // 2"),
                (mod(sub(X, Y), 2), "( x - y ) mod 2"), (div(mod(X, 5), 2), "x mod 5 // 2"), (mod(times(2, X), 2), "2 * x mod 2"),
                (div(times(2, div(X, 3)), 4), "2 * ( x // 3 ) // 4"), (num(-7), "- 7"), (sub(X, num(-7)), "x - - 7"), (add(num(0), X), "0 + x"),
                (mod(num(-7), 2), "- 7 mod 2")):
            self.assertEqual(text_of(("print", expression)), f"print {text} ;")
            self.assertEqual(text_of(("return", expression)), f"return {text} ;")
        a, b, c = lt(X, Y), le(X, Y), eq(X, Y)
        for condition, text in (
                (both(a, both(b, c)), "x < y and [ x <= y and x == y ]"), (both(both(a, b), c), "x < y and x <= y and x == y"),
                (either(a, either(b, c)), "x < y or [ x <= y or x == y ]"), (either(either(a, b), c), "x < y or x <= y or x == y"),
                (both(either(a, b), c), "[ x < y or x <= y ] and x == y"), (both(a, either(b, c)), "x < y and [ x <= y or x == y ]"),
                (either(both(a, b), c), "x < y and x <= y or x == y"), (either(a, both(b, c)), "x < y or x <= y and x == y"),
                (no(a), "not x < y"), (no(no(a)), "not not x < y"), (no(both(a, b)), "not [ x < y and x <= y ]"),
                (no(either(a, b)), "not [ x < y or x <= y ]"), (both(no(a), no(b)), "not x < y and not x <= y"), (ne(X, add(Y, X)), "x != y + x")):
            self.assertEqual(text_of(("assert", condition)), f"assert {text} ;")
            self.assertEqual(text_of(("if", condition, [], [])), f"if {text} {{ }}")
            self.assertEqual(text_of(("while", condition, [("print", X)])), f"while {text} {{ print x ; }}")
        self.assertEqual(text_of(("if", a, [], [("print", X)])), "if x < y { } else { print x ; }")
        self.assertEqual(text_of(("any", "x", -2, 3), ("call", "y", "main", [])), "x = any ( - 2 , 3 ) ; y = main ( ) ;")
        handed = Program([("f", ["a", "b"], [("call", "c", "f", [sub(name("a"), num(1)), num(-1)])]), ("main", [], [])])
        self.assertEqual(written(handed), "def f ( a , b ) { c = f ( a - 1 , - 1 ) ; } def main ( ) { }")

    def test_refusals(self):
        for thing in any_objects():
            if not isinstance(thing, Program):
                refused(self, BadProgram, thing, written, thing)
            if not isinstance(thing, str):
                self.refused_at(thing, 0)
        for text in ("x", "0", "main", "and"):
            self.refused_at(text, 0)
        self.assertEqual(told(self, written, program=p_program()), written(p_program()))
        self.refused_at(P_TEXT.encode(), 0)


if __name__ == "__main__":
    unittest.main()
