"""How the statements of a function are laid out as places and edges."""

from everypath.trees import told_statement


class Layout:
    """The places and edges of a function while its statements are laid one behind another.

    spots: those of its statements, loops: its loops by heads.
    """

    def __init__(self):
        self.places = 2
        self.edges = []
        self.spots = []
        self.loops = {}

    def new_place(self):
        self.places += 1
        return self.places - 1

    def lay_edge(self, start, end, action, spot):
        spot.numbers.append(len(self.edges))
        self.edges.append((start, end, action))

    def lay_on(self, start, action, spot):
        """Lays an edge to a new place and tells this place."""
        end = self.new_place()
        self.lay_edge(start, end, action, spot)
        return end

    def lay_all(self, statements, place, spots):
        """Lays them from this place on, puts their spots behind the others, and tells the place at which they end."""
        for statement in statements:
            spot = Spot(statement, place)
            spots.append(spot)
            place = self.lay(spot)
        return place

    def lay(self, spot):
        word = spot.statement[0]
        if word == "return":
            self.lay_edge(spot.place, 1, spot.statement, spot)
            return self.new_place()
        if word == "if":
            return self.lay_if(spot)
        if word == "while":
            return self.lay_while(spot)
        return self.lay_on(spot.place, spot.statement, spot)

    def lay_if(self, spot):
        _, condition, ones, others = spot.statement
        one = self.lay_all(ones, self.lay_on(spot.place, ("when", condition), spot), spot.new_list())
        not_so = ("when", ("not", condition))
        other = self.lay_all(others, self.lay_on(spot.place, not_so, spot), spot.new_list())
        behind = self.lay_on(one, ("skip",), spot)
        self.lay_edge(other, behind, ("skip",), spot)
        return behind

    def lay_while(self, spot):
        _, condition, statements = spot.statement
        head = self.lay_on(spot.place, ("skip",), spot)
        spot.asked_at = head
        loop = Loop(head, spot.statement)
        self.loops[head] = loop
        loop.last = self.lay_all(statements, self.lay_on(head, ("when", condition), spot), spot.new_list())
        self.lay_edge(loop.last, head, ("skip",), spot)
        loop.behind = self.lay_on(head, ("when", ("not", condition)), spot)
        return loop.behind


class Spot:
    """Where a statement stands: the place from which it is laid, the one at which it asks or reads, its edges.

    numbers: those of its own edges, in the order in which they are made; inner: the spots of each list within it.
    """

    def __init__(self, statement, place):
        self.statement = statement
        self.place = place
        self.asked_at = place
        self.numbers = []
        self.inner = []

    def new_list(self):
        """One list of spots more within it."""
        self.inner.append([])
        return self.inner[-1]


class Loop:
    """A while: its head, its condition and statements, the place from which its back edge goes, the place behind it."""

    def __init__(self, head, statement):
        self.head = head
        self.condition = statement[1]
        self.statements = statement[2]
        self.last = None
        self.behind = None

    def inner_places(self):
        """Its inner places, ascending."""
        return list(range(self.head + 1, self.behind))


def laid_out(statements):
    """The layout of a function with these statements."""
    layout = Layout()
    last = layout.lay_all(statements, 0, layout.spots)
    layout.edges.append((last, 1, ("return", ("number", 0))))
    return layout


def starting(places, edges):
    """For each place the numbers of the edges that start there, in their order."""
    found = [[] for _ in range(places)]
    for number, edge in enumerate(edges):
        found[edge[0]].append(number)
    return found


def told_edge(edge):
    """An edge as it is told, new lists in it."""
    return (edge[0], edge[1], told_statement(edge[2]))
