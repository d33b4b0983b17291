"""What expressions and conditions are for values of their names."""


def value_of(expression, values):
    """What it is; sums are gone through from their last part on, since they may have many."""
    behind = 0
    while expression[0] in ("add", "sub"):
        part = value_of(expression[2], values)
        behind += part if expression[0] == "add" else -part
        expression = expression[1]
    word = expression[0]
    if word == "number":
        return expression[1] + behind
    if word == "name":
        return values[expression[1]] + behind
    if word == "times":
        return expression[1] * value_of(expression[2], values) + behind
    inner = value_of(expression[1], values)
    if word == "div":
        return inner // expression[2] + behind
    return inner % expression[2] + behind


def holds(condition, values):
    word = condition[0]
    if word == "not":
        return not holds(condition[1], values)
    if word == "and":
        return holds(condition[1], values) and holds(condition[2], values)
    if word == "or":
        return holds(condition[1], values) or holds(condition[2], values)
    one, other = value_of(condition[1], values), value_of(condition[2], values)
    if word == "lt":
        return one < other
    if word == "le":
        return one <= other
    return (one == other) == (word == "eq")
