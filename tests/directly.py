"""States, moves, clamped feet and windings straight from the words of points [4] to [8] and [14] to [17].

Nothing here calls the package, except that a cloth is asked for its rows and zips.
"""


def is_integer(value):
    return type(value) is int


def placed_feet(cloth):
    """The row and the place on it of each foot."""
    return {foot: (index, at) for index, row in enumerate(cloth.rows()) for at, foot in enumerate(row[2])}


def low(state, foot):
    return state[foot[0]][foot[1]]


def high(state, foot):
    return low(state, foot) + state[foot[0]][2]


def is_placement(cloth, value):
    """Whether a value has the form of a state: a tuple with three integers for each zip."""
    if type(value) is not tuple or len(value) != len(cloth.zips()):
        return False
    return all(type(entry) is tuple and len(entry) == 3 and all(map(is_integer, entry)) for entry in value)


def is_state(cloth, value):
    if not is_placement(cloth, value):
        return False
    for (direction, minimum), entry in zip(cloth.zips(), value):
        if entry[2] < minimum or entry[2] < 0:
            return False
    for sort, teeth, feet in cloth.rows():
        for foot, following in zip(feet, feet[1:]):
            if low(value, following) < high(value, foot):
                return False
        if feet and sort == "line" and (low(value, feet[0]) < 0 or high(value, feet[-1]) > teeth):
            return False
        if feet and sort == "ring":
            first = low(value, feet[0])
            if first not in range(teeth) or high(value, feet[-1]) > first + teeth:
                return False
    return True


def gaps_of_row(row, state):
    sort, teeth, feet = row
    if not feet:
        return [teeth]
    between = [low(state, following) - high(state, foot) for foot, following in zip(feet, feet[1:])]
    if sort == "line":
        return [low(state, feet[0])] + between + [teeth - high(state, feet[-1])]
    return between + [low(state, feet[0]) + teeth - high(state, feet[-1])]


def gap_beside(cloth, foot, way):
    """The row and the index of the gap above a foot, or below it."""
    index, at = placed_feet(cloth)[foot]
    sort, teeth, feet = cloth.rows()[index]
    if sort == "line":
        return index, at + 1 if way == 1 else at
    return index, at if way == 1 else (at - 1) % len(feet)


def gap_size(cloth, state, gap):
    return gaps_of_row(cloth.rows()[gap[0]], state)[gap[1]]


def slider_ways(cloth, number, end):
    """Which way the slider looks at side 0 and at side 1."""
    way = 1 if end == 1 else -1
    return (way, way) if cloth.zips()[number][0] == "parallel" else (way, -way)


def is_move(cloth, value):
    if type(value) is not tuple or not value or value[0] not in ("close", "open", "slip"):
        return False
    if len(value) != (4 if value[0] == "slip" else 3) or not all(map(is_integer, value[1:])):
        return False
    return value[1] in range(len(cloth.zips())) and value[2] in (0, 1) and value[3:] in ((), (1,), (-1,))


def is_legal(cloth, state, move):
    if not is_move(cloth, move):
        return False
    name, number, half = move[:3]
    direction, minimum = cloth.zips()[number]
    count = state[number][2]
    if name == "open":
        return count != 0 and count > minimum
    if name == "slip":
        return count == 0 and gap_size(cloth, state, gap_beside(cloth, (number, half), move[3])) != 0
    ways = slider_ways(cloth, number, half)
    beside = [gap_beside(cloth, (number, side), way) for side, way in enumerate(ways)]
    found = [gap_size(cloth, state, gap) for gap in beside]
    return 0 not in found and not (beside[0] == beside[1] and found[0] == 1)


def apply_move(cloth, state, move):
    """The state after a legal move."""
    entries = [list(entry) for entry in state]
    name, number, half = move[:3]
    if name == "slip":
        entries[number][half] += move[3]
    else:
        more = 1 if name == "close" else -1
        entries[number][2] += more
        for side, way in enumerate(slider_ways(cloth, number, half)):
            entries[number][side] -= more if way == -1 else 0
    for sort, teeth, feet in cloth.rows():
        if sort == "ring" and feet:
            first = entries[feet[0][0]][feet[0][1]]
            for other, side in feet:
                entries[other][side] += first % teeth - first
    return tuple(map(tuple, entries))


def legal_moves(cloth, state):
    numbers = range(len(cloth.zips()))
    slides = [(name, number, end) for name in ("close", "open") for number in numbers for end in (0, 1)]
    slips = [("slip", number, side, step) for number in numbers for side in (0, 1) for step in (-1, 1)]
    return [move for move in sorted(slides + slips) if is_legal(cloth, state, move)]


def movers(cloth, state):
    """The movers of a state, each with the feet that it moves and their directions."""
    found = {}
    for number, ((direction, minimum), entry) in enumerate(zip(cloth.zips(), state)):
        for way in (1, -1):
            if minimum != 0 and entry[2] == minimum:
                found[(number, way)] = {(number, 0): way, (number, 1): way if direction == "parallel" else -way}
            if entry[2] == 0:
                found[(number, 0, way)] = {(number, 0): way}
                found[(number, 1, way)] = {(number, 1): way}
    return found


def foot_ahead(cloth, foot, way):
    """The foot at the other end of the gap ahead, or None for the end of a line."""
    index, at = placed_feet(cloth)[foot]
    sort, teeth, feet = cloth.rows()[index]
    if sort == "ring":
        return feet[(at + way) % len(feet)]
    return feet[at + way] if 0 <= at + way < len(feet) else None


def waits(cloth, state):
    """For each mover the movers that it waits for."""
    known = movers(cloth, state)
    found = {}
    for mover, moved in known.items():
        found[mover] = []
        for foot, way in moved.items():
            if gap_size(cloth, state, gap_beside(cloth, foot, way)) == 0:
                ahead = foot_ahead(cloth, foot, way)
                found[mover].extend(other for other, feet in known.items() if feet.get(ahead) == way)
    return found


def is_on_a_cycle(found, mover):
    reached, waiting = set(), list(found[mover])
    while waiting:
        other = waiting.pop()
        if other not in reached:
            reached.add(other)
            waiting.extend(found[other])
    return mover in reached


def clamped_feet(cloth, state):
    known, found = movers(cloth, state), waits(cloth, state)
    return sorted({foot for mover in known if is_on_a_cycle(found, mover) for foot in known[mover]})


def is_blocking_cycle(cloth, state, value):
    found = waits(cloth, state)
    if type(value) is not list or not value:
        return False
    for mover in value:
        if type(mover) is not tuple or not all(map(is_integer, mover)) or mover not in found:
            return False
    return len(set(value)) == len(value) and all(
        value[(at + 1) % len(value)] in found[mover] for at, mover in enumerate(value))


def offset(cloth, state, number):
    if cloth.zips()[number][0] == "parallel":
        return low(state, (number, 1)) - low(state, (number, 0))
    return low(state, (number, 0)) + high(state, (number, 1))


def shifted(cloth, state, winding):
    """The goal's positions, shifted by a winding. They need not be a state."""
    entries = [list(entry) for entry in state]
    for turns, (sort, teeth, feet) in zip(winding, cloth.rows()):
        for number, side in feet:
            entries[number][side] += turns * teeth
    return tuple(map(tuple, entries))


def is_winding(cloth, value):
    if type(value) is not tuple or len(value) != len(cloth.rows()) or not all(map(is_integer, value)):
        return False
    return all(turns == 0 or sort == "ring" and feet for turns, (sort, teeth, feet) in zip(value, cloth.rows()))


def quantities(cloth, start, state):
    """What each constraint keeps, by name: an offset or a low position. The start tells which constraints there are."""
    found = {("foot", *foot): low(state, foot) for foot in clamped_feet(cloth, start)}
    for number, (direction, minimum) in enumerate(cloth.zips()):
        if minimum != 0:
            found[("offset", number)] = offset(cloth, state, number)
    return found


def is_admissible(cloth, start, goal, value):
    if not is_winding(cloth, value):
        return False
    return quantities(cloth, start, shifted(cloth, goal, value)) == quantities(cloth, start, start)


def constraints(cloth, start, goal):
    """How each quantity of the goal changes by one turn of each row, and how far it is from that of the start."""
    before, after = quantities(cloth, start, start), quantities(cloth, start, goal)
    units = [tuple(int(other == index) for other in range(len(cloth.rows()))) for index in range(len(cloth.rows()))]
    found = []
    for name in before:
        coefficients = tuple(quantities(cloth, start, shifted(cloth, goal, unit))[name] - after[name]
                             if is_winding(cloth, unit) else 0 for unit in units)
        found.append((name, coefficients, before[name] - after[name]))
    return sorted(found)
