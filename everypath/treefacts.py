"""What stands in trees of choices between facts."""


def facts_in(tree):
    """All facts of a tree."""
    found = []
    waiting = [tree]
    while waiting:
        part = waiting.pop()
        if part[0] == "fact":
            found.append(part[1])
        else:
            waiting.extend(part[-2:])
    return found


def clauses_of(tree):
    """The trees that have to hold all together where this one does, none of them an and."""
    if tree[0] == "and":
        return [*clauses_of(tree[1]), *clauses_of(tree[2])]
    return [tree]
