"""Functions laid out once more, along the words of [4.1], each edge with the statement that makes it."""


class Laying:
    """edges: triples (from, to, action); makers: for each of them the path of the statement that makes it."""

    def __init__(self, statements):
        self.places, self.edges, self.makers = 2, [], []
        last = self.lay_all(statements, 0, ())
        self.edge(last, 1, ("return", ("number", 0)), None)

    def place(self):
        self.places += 1
        return self.places - 1

    def edge(self, start, end, action, maker):
        self.edges.append((start, end, action))
        self.makers.append(maker)

    def lay_all(self, statements, place, path):
        for at, statement in enumerate(statements):
            place = self.lay(statement, place, (*path, at))
        return place

    def lay(self, statement, p, path):
        word = statement[0]
        if word == "return":
            self.edge(p, 1, statement, path)
            return self.place()
        if word == "if":
            ends = []
            for at, condition in enumerate((statement[1], ("not", statement[1]))):
                q = self.place()
                self.edge(p, q, ("when", condition), path)
                ends.append(self.lay_all(statement[2 + at], q, (*path, at)))
            q = self.place()
            for end in ends:
                self.edge(end, q, ("skip",), path)
            return q
        if word == "while":
            h = self.place()
            self.edge(p, h, ("skip",), path)
            q = self.place()
            self.edge(h, q, ("when", statement[1]), path)
            self.edge(self.lay_all(statement[2], q, (*path, 0)), h, ("skip",), path)
            q = self.place()
            self.edge(h, q, ("when", ("not", statement[1])), path)
            return q
        q = self.place()
        self.edge(p, q, statement, path)
        return q


def layings(program):
    return {f: Laying(statements) for f, _, statements in program.functions()}


def names_in(tree):
    """The names that are read in an expression, a condition, or a list of them."""
    if isinstance(tree, (list, tuple)):
        if len(tree) == 2 and tree[0] == "name":
            return {tree[1]}
        return set().union(*[names_in(part) for part in tree])
    return set()


def used(action):
    """The names that an action uses."""
    if action[0] in ("any", "skip"):
        return set()
    return names_in(action[3] if action[0] == "call" else action[2] if action[0] == "set" else action[1])


def set_by(action):
    return action[1] if action[0] in ("set", "any", "call") else None


def reaches(edges, start, goal, name):
    """Whether a way goes from start to goal on which no edge sets the name."""
    seen, waiting = {start}, [start]
    while waiting:
        place = waiting.pop()
        for p, q, action in edges:
            if p == place and q not in seen and set_by(action) != name:
                seen.add(q)
                waiting.append(q)
    return goal in seen


def all_through(edges, start, place):
    """Whether all ways from start to place 1 go through the place."""
    if start == place or place == 1:
        return True
    kept = [edge for edge in edges if place not in edge[:2]]
    return start != 1 and not reaches(kept, start, 1, "no name")


def reaching_words(laying, place, name):
    return [number for number, (_, end, action) in enumerate(laying.edges)
            if set_by(action) == name and reaches(laying.edges, end, place, name)]


def hanging_words(laying, place):
    found = []
    for b in range(laying.places):
        ends = [end for start, end, _ in laying.edges if start == b]
        if len(ends) == 2 and all_through(laying.edges, ends[0], place) != all_through(laying.edges, ends[1], place):
            found.append(b)
    return found


def asked_words(program, laid, first, edge):
    """The edges that (a) to (d) of [16.4] ask for."""
    f, number = edge
    laying = laid[f]
    p, _, action = laying.edges[number]
    found = {(f, k) for name in used(action) for k in reaching_words(laying, p, name)}
    found |= {(f, k) for b in hanging_words(laying, p) for k, other in enumerate(laying.edges) if other[0] == b}
    maker = laying.makers[number]
    for k, other in enumerate(laying.edges):
        if maker is not None and other[2][0] == "when" and laying.makers[k] == maker[:len(laying.makers[k])]:
            found.add((f, k))
    if action[0] == "call":
        found |= {(action[2], k) for k, other in enumerate(laid[action[2]].edges) if other[2][0] == "return"}
    if edge == first or action[0] == "any":
        for g in laid:
            found |= {(g, k) for k, other in enumerate(laid[g].edges) if other[2][0] == "call" and f in led_to(laid, other[2][2])}
    return found


def led_to(laid, g):
    """The functions that a function leads to."""
    seen, waiting = {g}, [g]
    while waiting:
        for _, _, action in laid[waiting.pop()].edges:
            if action[0] == "call" and action[2] not in seen:
                seen.add(action[2])
                waiting.append(action[2])
    return seen


def slice_words(program, laid, edge):
    found, waiting = {edge}, [edge]
    while waiting:
        for other in asked_words(program, laid, edge, waiting.pop()):
            if other not in found:
                found.add(other)
                waiting.append(other)
    order = [f for f, _, _ in program.functions()]
    return sorted(found, key=lambda pair: (order.index(pair[0]), pair[1]))
