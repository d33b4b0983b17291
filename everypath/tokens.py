"""Texts of programs as tokens."""

from everypath.numerals import DIGITS
from everypath.trees import LETTERS, WORDS, is_name

BLANKS = " \n"
LONG_SIGNS = ("==", "!=", "<=", ">=", "//")
SIGNS = "(){}[],;=<>+-*"


class Token:
    """What a token is called, its text, and the index at which it begins.

    It is called as its text is, but "name" for what may be a name, "numeral", "end" for the end of the text, and
    "none" for what nothing goes on with: any other word, or a sign that begins no token.
    """

    def __init__(self, called_as, text, place):
        self.called_as = called_as
        self.text = text
        self.place = place


def tokens_of(text):
    """The tokens of a text, up to its end or a sign that begins none."""
    found = []
    place = 0
    while place < len(text):
        if text[place] in BLANKS:
            place += 1
            continue
        token = token_at(text, place)
        found.append(token)
        if token.text == "":
            return found
        place += len(token.text)
    found.append(Token("end", "", place))
    return found


def token_at(text, place):
    """The token that begins here; of a sign that begins none the text is empty."""
    sign = text[place]
    if sign in LETTERS:
        word = text[place:end_of_row(text, place, LETTERS)]
        return Token(word if word in WORDS else "name" if is_name(word) else "none", word, place)
    if sign in DIGITS:
        end = place + 1 if sign == "0" else end_of_row(text, place, DIGITS)
        return Token("numeral", text[place:end], place)
    if text[place:place + 2] in LONG_SIGNS:
        return Token(text[place:place + 2], text[place:place + 2], place)
    if sign in SIGNS:
        return Token(sign, sign, place)
    return Token("none", "", place)


def end_of_row(text, place, signs):
    """Where the row of these signs ends that begins here."""
    while place < len(text) and text[place] in signs:
        place += 1
    return place
