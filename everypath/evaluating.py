"""What expressions and conditions are for values of their names."""


def value_of(expression, values):
    word = expression[0]
    if word == "number":
        return expression[1]
    if word == "name":
        return values[expression[1]]
    if word == "times":
        return expression[1] * value_of(expression[2], values)
    one = value_of(expression[1], values)
    if word == "add":
        return one + value_of(expression[2], values)
    if word == "sub":
        return one - value_of(expression[2], values)
    if word == "div":
        return one // expression[2]
    return one % expression[2]


def holds(condition, values):
    word = condition[0]
    if word == "not":
        return not holds(condition[1], values)
    if word == "and":
        return holds(condition[1], values) and holds(condition[2], values)
    if word == "or":
        return holds(condition[1], values) or holds(condition[2], values)
    one, other = value_of(condition[1], values), value_of(condition[2], values)
    if word == "lt":
        return one < other
    if word == "le":
        return one <= other
    return (one == other) == (word == "eq")
