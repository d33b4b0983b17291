"""Refutations of the system of some facts made into those of the system of more facts."""


class Places:
    """Where what makes the system of facts stands among all its rows, and the columns among its unknowns.

    A row is told by ("fact", fact), ("quotient", column, 0 or 1) or ("range", column, 0 or 1).
    """

    def __init__(self, table, facts):
        quotients = table.met_by(facts)
        self.columns = [*list(range(len(table.ranges))), *quotients]
        self.rows = [("fact", fact) for fact in facts]
        self.rows.extend([("quotient", column, side) for column in quotients for side in (0, 1)])
        self.rows.extend([("range", column, side) for column in self.columns for side in (0, 1)])

    def first_places(self):
        """The first place of each row."""
        found = {}
        for place, row in enumerate(self.rows):
            if row not in found:
                found[row] = place
        return found


def used_facts(table, facts, items):
    """Facts the system of which has all that these items, which refute that of facts, make use of."""
    found = {}
    columns = {}
    own = Places(table, facts)
    columns.update({own.columns[item[1]]: True for item in items if item[0] == "split"})
    for row in rows_used(own.rows, [part for item in items if item[0] == "sums" for part in item[1]]):
        if row[0] == "fact":
            found[row[1]] = True
        else:
            columns[row[1]] = True
    met = {column: True for column in table.met_by(list(found))}
    for column in columns:
        if column < 0 and column not in met:
            fact = [fact for fact in facts if column in table.meets[fact]][0]
            found[fact] = True
            met.update({other: True for other in table.meets[fact]})
    return list(found)


def rows_used(rows, lists):
    """The rows that some of the lists of multipliers use."""
    found = {}
    for multipliers in lists:
        for row, times in zip(rows, multipliers):
            if times != 0:
                found[row] = True
    return list(found)


def lifted(table, items, facts, more):
    """Items that refute the system of facts, as those that refute the system of more, which has all that they use."""
    own = Places(table, facts)
    great = Places(table, more)
    places = great.first_places()
    found = []
    for item in items:
        if item[0] == "split":
            found.append(("split", great.columns.index(own.columns[item[1]]), item[2]))
        else:
            found.append(("sums", [lifted_list(part, own.rows, places, len(great.rows)) for part in item[1]]))
    return found


def lifted_list(multipliers, rows, places, many):
    """Multipliers of rows and of those that came behind them, as multipliers where so many rows stand ahead."""
    found = [0 for _ in range(many)]
    for row, times in zip(rows, multipliers):
        if times != 0:
            found[places[row]] += times
    return [*found, *multipliers[len(rows):]]
