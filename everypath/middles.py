"""The middle of what some lines let, and a measure of lengths by how far they leave room around it."""

# numerators of middles are over this, times how many corners there are
SCALE = 1000000000000000000
# a line leaves room for one by this at least
LEAST_ROOM = 1000
# how fine weights of lines are, the least one being the square of this
FINE = 16


def corners_around(board, corner):
    """The numerators over SCALE of corners where each of the lines leaves most room, from a corner on that is met."""
    found = []
    corner = corner.copied()
    for number in board.standing:
        climb(board, corner, board.lines[number].row)
        found.append([start * SCALE // denominator for start, _, denominator in corner.unknowns])
    return found


def climb(board, corner, row):
    """Goes on to a corner where a row leaves most room."""
    while True:
        multiples = corner.grown(row)[1]
        slots = [slot for slot in multiples if multiples[slot] < 0]
        if not slots:
            return
        # the least numbers first, lest it go round in circles
        slot = min(slots, key=lambda at_slot: corner.slots[at_slot])
        number = first_met(board, corner, slot)
        excess, grown, whole = corner.grown(board.lines[number].row)
        corner.put_in(number, slot, excess, grown, whole)


def first_met(board, corner, slot):
    """The line that is met first with nothing to spare if the sparing of a slot grows."""
    starts, whole = corner.at_one_denominator()
    ways = [own.get(slot, 0) * (whole // denominator) for _, own, denominator in corner.unknowns]
    best = None
    room, speed = 0, 1
    for number in board.standing:
        line = board.lines[number]
        here = line.excess(ways, 0)
        if here > 0:
            spare = -line.excess(starts, whole)
            if best is None or spare * speed < room * here:
                best, room, speed = number, spare, here
    return best


def middle_of(corners):
    """The sum of corners: the middle over their number times SCALE."""
    return [sum([corner[at] for corner in corners]) for at in range(len(corners[0]))]


def measure_around(board, middle, scale):
    """The measure of the columns, each line's change being counted by how much room it leaves at the middle."""
    many = len(middle)
    found = [[0 for _ in range(many)] for _ in range(many)]
    lines = [board.lines[number] for number in board.standing]
    rooms = [max(-line.excess(middle, scale), scale // LEAST_ROOM) for line in lines]
    widest = max(rooms)
    for line, room in zip(lines, rooms):
        factors = line.row[0]
        weight = FINE * widest // room
        for at in factors:
            for to in factors:
                found[at][to] += weight * weight * factors[at] * factors[to]
    return found
