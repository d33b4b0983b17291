"""Nots of conditions worked in."""

TURNED_WORDS = {"eq": "ne", "ne": "eq"}


def turned(condition):
    """A condition with no not at its top that holds just where this one does not, nots being left right within."""
    word = condition[0]
    if word == "not":
        return condition[1]
    if word == "and":
        return ("or", ("not", condition[1]), ("not", condition[2]))
    if word == "or":
        return ("and", ("not", condition[1]), ("not", condition[2]))
    if word == "lt":
        return ("le", condition[2], condition[1])
    if word == "le":
        return ("lt", condition[2], condition[1])
    return (TURNED_WORDS[word], condition[1], condition[2])
