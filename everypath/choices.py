"""Conditions as trees of choices between facts, and what is left of them when some choices are made.

A TREE is ("fact", number of a fact), ("and", tree, tree), or ("or", number of the choice, tree, tree). CHOSEN is a
dict from numbers of choices to 0 or 1.
"""

from everypath.plainforms import at_most
from everypath.plainsums import plain_sum
from everypath.trees import turned


class Chooser:
    """Makes trees of conditions over the unknowns of a table of facts; choices tells how many it has numbered."""

    def __init__(self, table, choices):
        self.table = table
        self.choices = choices

    def tree_of(self, condition):
        word = condition[0]
        if word == "not":
            return self.tree_of(turned(condition[1]))
        if word == "and":
            return ("and", self.tree_of(condition[1]), self.tree_of(condition[2]))
        if word == "or":
            return self.new_choice(self.tree_of(condition[1]), self.tree_of(condition[2]))
        one, other = plain_sum(condition[1], {}), plain_sum(condition[2], {})
        if word == "le":
            return self.fact(0, one, other)
        if word == "lt":
            return self.fact(1, one, other)
        if word == "eq":
            return ("and", self.fact(0, one, other), self.fact(0, other, one))
        return self.new_choice(self.fact(1, one, other), self.fact(1, other, one))

    def fact(self, n, one, other):
        return ("fact", self.table.bring(at_most(n, one, other)))

    def new_choice(self, one, other):
        self.choices += 1
        return ("or", self.choices - 1, one, other)


def alternatives_of(tree):
    """The alternatives of a tree: pairs (list of facts, what is chosen for it)."""
    if tree[0] == "fact":
        return [([tree[1]], {})]
    if tree[0] == "and":
        others = alternatives_of(tree[2])
        return [([*facts, *more], {**chosen, **rest}) for facts, chosen in alternatives_of(tree[1])
                for more, rest in others]
    found = []
    for side in (0, 1):
        found.extend([(facts, {**chosen, tree[1]: side}) for facts, chosen in alternatives_of(tree[2 + side])])
    return found


def many_alternatives(tree):
    """How many alternatives it has."""
    if tree[0] == "fact":
        return 1
    if tree[0] == "and":
        return many_alternatives(tree[1]) * many_alternatives(tree[2])
    return many_alternatives(tree[2]) + many_alternatives(tree[3])


def has_choice(tree):
    if tree[0] == "and":
        return has_choice(tree[1]) or has_choice(tree[2])
    return tree[0] == "or"


def facts_chosen(tree, chosen):
    """The facts that must hold by what is chosen, in their order."""
    if tree[0] == "fact":
        return [tree[1]]
    if tree[0] == "and":
        return [*facts_chosen(tree[1], chosen), *facts_chosen(tree[2], chosen)]
    if tree[1] in chosen:
        return facts_chosen(tree[2 + chosen[tree[1]]], chosen)
    return []


def facts_left(trees, taken):
    """The facts of all trees that have one alternative, or for which facts are taken, by their indices."""
    found = []
    for index, tree in enumerate(trees):
        if index in taken:
            found.extend(taken[index])
        elif not has_choice(tree):
            found.extend(facts_chosen(tree, {}))
    return found


def open_choice(tree, chosen, table, worths):
    """The first choice that is not made, with neither side of it true for these worths; None if there is none."""
    if tree[0] == "fact":
        return None
    if tree[0] == "and":
        found = open_choice(tree[1], chosen, table, worths)
        return open_choice(tree[2], chosen, table, worths) if found is None else found
    if tree[1] in chosen:
        return open_choice(tree[2 + chosen[tree[1]]], chosen, table, worths)
    return None if is_true(tree, table, worths) else tree[1]


def is_true(tree, table, worths):
    if tree[0] == "fact":
        return table.is_true(tree[1], worths)
    if tree[0] == "and":
        return is_true(tree[1], table, worths) and is_true(tree[2], table, worths)
    return is_true(tree[2], table, worths) or is_true(tree[3], table, worths)


def facts_in(tree):
    """All facts of a tree."""
    found = []
    waiting = [tree]
    while waiting:
        part = waiting.pop()
        if part[0] == "fact":
            found.append(part[1])
        else:
            waiting.extend(part[-2:])
    return found


def clauses_of(tree):
    """The trees that have to hold all together where this one does, none of them an and."""
    if tree[0] == "and":
        return [*clauses_of(tree[1]), *clauses_of(tree[2])]
    return [tree]
