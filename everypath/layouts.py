"""How the statements of a function are laid out as places and edges."""

from everypath.trees import told_statement


class Layout:
    """The places and edges of a function while its statements are laid one behind another, and its loops by heads."""

    def __init__(self):
        self.places = 2
        self.edges = []
        self.loops = {}

    def new_place(self):
        self.places += 1
        return self.places - 1

    def lay_edge(self, start, end, action):
        self.edges.append((start, end, action))

    def lay_on(self, start, action):
        """Lays an edge to a new place and tells this place."""
        end = self.new_place()
        self.lay_edge(start, end, action)
        return end

    def lay_all(self, statements, place):
        """Lays them from this place on and tells the place at which they end."""
        for statement in statements:
            place = self.lay(statement, place)
        return place

    def lay(self, statement, place):
        word = statement[0]
        if word == "return":
            self.lay_edge(place, 1, statement)
            return self.new_place()
        if word == "if":
            return self.lay_if(statement, place)
        if word == "while":
            return self.lay_while(statement, place)
        return self.lay_on(place, statement)

    def lay_if(self, statement, place):
        condition = statement[1]
        one = self.lay_all(statement[2], self.lay_on(place, ("when", condition)))
        other = self.lay_all(statement[3], self.lay_on(place, ("when", ("not", condition))))
        behind = self.lay_on(one, ("skip",))
        self.lay_edge(other, behind, ("skip",))
        return behind

    def lay_while(self, statement, place):
        condition = statement[1]
        head = self.lay_on(place, ("skip",))
        loop = Loop(head, statement)
        self.loops[head] = loop
        loop.last = self.lay_all(statement[2], self.lay_on(head, ("when", condition)))
        self.lay_edge(loop.last, head, ("skip",))
        loop.behind = self.lay_on(head, ("when", ("not", condition)))
        return loop.behind


class Loop:
    """A while: its head, its condition and statements, the place from which its back edge goes, the place behind it."""

    def __init__(self, head, statement):
        self.head = head
        self.condition = statement[1]
        self.statements = statement[2]
        self.last = None
        self.behind = None

    def inner_places(self):
        """Its inner places, ascending."""
        return list(range(self.head + 1, self.behind))


def laid_out(statements):
    """The layout of a function with these statements."""
    layout = Layout()
    last = layout.lay_all(statements, 0)
    layout.lay_edge(last, 1, ("return", ("number", 0)))
    return layout


def starting(places, edges):
    """For each place the numbers of the edges that start there, in their order."""
    found = [[] for _ in range(places)]
    for number, edge in enumerate(edges):
        found[edge[0]].append(number)
    return found


def told_edge(edge):
    """An edge as it is told, new lists in it."""
    return (edge[0], edge[1], told_statement(edge[2]))
