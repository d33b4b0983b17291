"""Programs for tests, read from short texts: just as much of the language as the tests need, and no refusals."""

import re

from everypath.programs import Program

SIGNS = {"==": "eq", "!=": "ne", "<": "lt", "<=": "le", ">": "lt", ">=": "le"}


class Reader:
    def __init__(self, text):
        self.tokens = re.findall(r"[a-z]+|[0-9]+|==|!=|<=|>=|//|[(){}\[\],;=<>+*-]", text) + [""]
        self.at = 0

    def peek(self):
        return self.tokens[self.at]

    def take(self, *wanted):
        token = self.tokens[self.at]
        assert not wanted or token in wanted, (token, wanted, self.tokens[max(0, self.at - 5):self.at + 5])
        self.at += 1
        return token

    def listed(self, read):
        self.take("(")
        found = []
        while self.peek() != ")":
            if found:
                self.take(",")
            found.append(read())
        self.take(")")
        return found

    def functions(self):
        found = []
        while self.peek():
            self.take("def")
            found.append((self.take(), self.listed(self.take), self.block()))
        return found

    def block(self):
        self.take("{")
        found = []
        while self.peek() != "}":
            found.append(self.statement())
        self.take("}")
        return found

    def integer(self):
        if self.peek() == "-":
            self.take()
            return -int(self.take())
        return int(self.take())

    def statement(self):
        word = self.take()
        if word in ("if", "while"):
            condition, one = self.condition(), self.block()
            if word == "while":
                return (word, condition, one)
            if self.peek() == "else":
                self.take()
                return (word, condition, one, self.block())
            return (word, condition, one, [])
        if word in ("assert", "assume"):
            found = (word, self.condition())
        elif word in ("print", "return"):
            found = (word, self.expression())
        else:
            found = self.setting(word)
        self.take(";")
        return found

    def setting(self, word):
        self.take("=")
        if self.peek() == "any":
            self.take()
            return ("any", word, *self.listed(self.integer))
        if self.peek().isalpha() and self.tokens[self.at + 1] == "(":
            return ("call", word, self.take(), self.listed(self.expression))
        return ("set", word, self.expression())

    def expression(self):
        found = self.product()
        while self.peek() in ("+", "-"):
            found = ("add" if self.take() == "+" else "sub", found, self.product())
        return found

    def product(self):
        found = self.piece()
        while self.peek() in ("//", "mod"):
            found = ("div" if self.take() == "//" else "mod", found, int(self.take()))
        return found

    def piece(self):
        if self.peek() == "(":
            self.take()
            found = self.expression()
            self.take(")")
            return found
        if self.peek().isalpha():
            return ("name", self.take())
        number = self.integer()
        if self.peek() == "*":
            self.take()
            return ("times", number, self.piece())
        return ("number", number)

    def condition(self):
        found = self.clause()
        while self.peek() == "or":
            self.take()
            found = ("or", found, self.clause())
        return found

    def clause(self):
        found = self.fact()
        while self.peek() == "and":
            self.take()
            found = ("and", found, self.fact())
        return found

    def fact(self):
        if self.peek() == "not":
            self.take()
            return ("not", self.fact())
        if self.peek() == "[":
            self.take()
            found = self.condition()
            self.take("]")
            return found
        one, sign, other = self.expression(), self.take(), self.expression()
        return (SIGNS[sign], other, one) if sign in (">", ">=") else (SIGNS[sign], one, other)


def functions_in(text):
    return Reader(text).functions()


def program_in(text):
    return Program(functions_in(text))


def main_of(text):
    """The program of a main with these statements alone."""
    return program_in("def main ( ) { " + text + " }")
