"""Programs read from texts."""

from everypath.errors import BadText
from everypath.grammar import PARTS, PRODUCTIONS
from everypath.kinds import is_text
from everypath.numerals import number_of
from everypath.programs import Program
from everypath.tokens import tokens_of


def read(text):
    if not is_text(text):
        raise BadText(0)
    reader = Reader(tokens_of(text))
    if not reader.is_read():
        raise BadText(reader.token().place)
    return Program(reader.made[0])


class Reader:
    """Goes through tokens; waiting: what is still to come, the next thing last; made: what was read so far.

    No recursion, since what stands one within another may be deep.
    """

    def __init__(self, tokens):
        self.tokens = tokens
        self.at = 0
        self.waiting = ["PROGRAM"]
        self.made = []

    def token(self):
        """The token that comes next."""
        return self.tokens[self.at]

    def is_read(self):
        """Reads all; False if no text goes on with the token that comes next."""
        while self.waiting:
            wanted = self.waiting.pop()
            if wanted[0] == ".":
                self.make(wanted)
            elif wanted.isupper():
                if not self.begin(wanted):
                    return False
            elif not self.take(wanted):
                return False
        return True

    def begin(self, part):
        """Has what a part is made of come next; False if it can't begin with the token that does."""
        row = PRODUCTIONS.get((part, self.token().called_as), PRODUCTIONS.get((part, "")))
        if row is None:
            return False
        self.waiting.extend(row[::-1])
        return True

    def take(self, wanted):
        """Goes behind the next token; False if it is not the one that is wanted."""
        token = self.token()
        if wanted in ("divisor", "high", "high below 0"):
            if token.called_as != "numeral" or not self.is_let(wanted, number_of(token.text)):
                return False
        elif token.called_as != wanted:
            return False
        self.at += 1
        if token.called_as == "numeral":
            self.made.append(number_of(token.text))
        elif token.called_as == "name":
            self.made.append(token.text)
        return True

    def is_let(self, wanted, number):
        """Whether a number may divide, or be the second integer of an any behind the first one."""
        if wanted == "divisor":
            return number >= 1
        return self.made[-1] <= (number if wanted == "high" else -number)

    def make(self, word):
        """Makes something of what was read last."""
        if word == ".list":
            self.made.append([])
        elif word == ".append":
            part = self.made.pop()
            self.made[-1].append(part)
        elif word == ".minus":
            self.made.append(-self.made.pop())
        elif word == ".more":
            other = self.made.pop()
            self.made.extend([other, self.made.pop()])
        else:
            self.make_tree(word)

    def make_tree(self, word):
        many = PARTS[word]
        parts = self.made[-many:]
        del self.made[-many:]
        self.made.append(tuple(parts) if word == ".function" else (word[1:], *parts))
