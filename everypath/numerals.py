"""Integers as rows of digits, part by part: the language's own reading and writing takes a few thousand at most."""

DIGITS = "0123456789"
# the digits of a part, and the first number with more
PART = 18
ABOVE_PART = 1000000000000000000


def is_numeral(text):
    """Whether it is a row of digits that does not begin with 0, or 0 alone."""
    if text == "" or not all([sign in DIGITS for sign in text]):
        return False
    return text == "0" or text[0] != "0"


def is_written_integer(text):
    """Whether it is a numeral, or one other than 0 behind a minus."""
    if text[:1] != "-":
        return is_numeral(text)
    return is_numeral(text[1:]) and text != "-0"


def number_of(digits):
    """The number that a row of digits is."""
    first = len(digits) % PART
    number = int(digits[:first]) if first > 0 else 0
    for at in range(first, len(digits), PART):
        number = number * ABOVE_PART + int(digits[at:at + PART])
    return number


def integer_of(text):
    """The integer that a row of digits is, with or without a minus ahead of it."""
    return -number_of(text[1:]) if text[:1] == "-" else number_of(text)


def digits_of(number):
    """The numeral of a number."""
    parts = []
    while number >= ABOVE_PART:
        number, part = divmod(number, ABOVE_PART)
        parts.append(str(part).zfill(PART))
    parts.append(str(number))
    return "".join(parts[::-1])


def written_integer(n):
    """The numeral of an integer, behind a minus if it is below 0."""
    return "-" + digits_of(-n) if n < 0 else digits_of(n)
