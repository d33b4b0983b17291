"""Spans: sets of integers as ascending lists of pairs (low, high), with gaps between them."""


def spans_met(spans, others):
    """The spans of the integers that are in both."""
    found = []
    at, to = 0, 0
    while at < len(spans) and to < len(others):
        low = max(spans[at][0], others[to][0])
        high = min(spans[at][1], others[to][1])
        if low <= high:
            found.append((low, high))
        if spans[at][1] < others[to][1]:
            at += 1
        else:
            to += 1
    return found


def spans_joined(spans, others):
    """The spans of the integers that are in one or the other."""
    found = []
    for low, high in sorted([*spans, *others]):
        if found and low <= found[-1][1] + 1:
            found[-1] = (found[-1][0], max(high, found[-1][1]))
        else:
            found.append((low, high))
    return found


def spans_at_most(factor, bound, low, high):
    """The spans of the integers from low to high which, times the factor, are at most the bound."""
    if factor > 0:
        high = min(high, bound // factor)
    elif factor < 0:
        low = max(low, -(bound // -factor))
    elif bound < 0:
        return []
    return [(low, high)] if low <= high else []


def many_in(spans):
    """How many integers they have."""
    return sum([high - low + 1 for low, high in spans])
