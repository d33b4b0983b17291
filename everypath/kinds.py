"""Of which kind a thing is: True and False are no integers, tuples may stand for lists."""


def is_integer(thing):
    return isinstance(thing, int) and not isinstance(thing, bool)


def is_number(thing):
    return is_integer(thing) and thing >= 0


def is_text(thing):
    return isinstance(thing, str)


def is_list(thing):
    return isinstance(thing, (list, tuple))


def is_list_of(thing, many):
    return is_list(thing) and len(thing) == many


def are_integers(thing):
    """Whether it is a list of integers."""
    return is_list(thing) and all([is_integer(part) for part in thing])


def is_range(thing):
    """Whether it is a pair of integers, the first one at most the second one."""
    return is_list_of(thing, 2) and are_integers(thing) and thing[0] <= thing[1]


def are_ranges(thing):
    return is_list(thing) and all([is_range(part) for part in thing])


def are_sides(thing):
    """Whether it is a list of numbers 0 and 1."""
    return are_integers(thing) and all([side in (0, 1) for side in thing])


def tupled(thing):
    """The thing with a tuple for each list in it; without recursion, since trees may be deep."""
    if not is_list(thing):
        return thing
    waiting = [(thing, [])]
    while True:
        parts, done = waiting[-1]
        if len(done) < len(parts):
            part = parts[len(done)]
            if is_list(part):
                waiting.append((part, []))
            else:
                done.append(part)
        else:
            waiting.pop()
            made = tuple(done)
            if not waiting:
                return made
            waiting[-1][1].append(made)
