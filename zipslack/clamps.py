"""Clamped feet: feet that never move, because the movers around them wait for each other."""

from zipslack.errors import NotClamped
from zipslack.kinds import is_tuple_between
from zipslack.places import WAYS, all_halves, is_half, is_way, towards
from zipslack.states import require_gaps


def clamped_feet(cloth, state):
    """All clamped feet in ascending order."""
    return find_clamped(cloth, state, require_gaps(cloth, state))


def blocking_cycle(cloth, state, foot):
    """A blocking cycle with a mover of the foot."""
    gaps = require_gaps(cloth, state)
    cycle = None
    if is_tuple_between(foot, 2, 2) and is_half(cloth, foot[0], foot[1]):
        cycle = foot_cycle(cloth, state, knotted(find_waits(cloth, state, gaps)), foot)
    if cycle is None:
        raise NotClamped(foot)
    return cycle


def is_blocking_cycle(cloth, state, value):
    """Whether any value is a blocking cycle of the state."""
    gaps = require_gaps(cloth, state)
    if not isinstance(value, list) or len(value) == 0:
        return False
    # What is no mover must not reach the set or the comparison: True would be found as 1.
    if not all([is_mover(cloth, state, part) for part in value]) or len(set(value)) < len(value):
        return False
    following = value[1:] + value[:1]
    return all([ahead in movers_ahead(cloth, state, gaps, mover) for mover, ahead in zip(value, following)])


def find_clamped(cloth, state, gaps):
    waits = knotted(find_waits(cloth, state, gaps))
    if not waits:
        return []
    return [foot for foot in all_halves(cloth) if foot_cycle(cloth, state, waits, foot) is not None]


def is_tight(cloth, state, number):
    return 0 < state[number][2] == cloth.minimums[number]


def is_mover(cloth, state, value):
    """Whether any value is a mover of the state."""
    if is_tuple_between(value, 2, 2):
        return is_half(cloth, value[0], 0) and is_way(value[1]) and is_tight(cloth, state, value[0])
    if is_tuple_between(value, 3, 3):
        return is_half(cloth, value[0], value[1]) and is_way(value[2]) and state[value[0]][2] == 0
    return False


def mover_feet(cloth, mover):
    """The feet that a mover moves, each as a tuple of its zip, its side and its way along the row."""
    if len(mover) == 3:
        return [mover]
    number, way = mover
    return [(number, 0, way), (number, 1, way * cloth.facings[number])]


def mover_of(cloth, state, number, side, way):
    """The mover that moves a foot this way along its row, or None if its zip has no movers."""
    if state[number][2] == 0:
        return (number, side, way)
    if not is_tight(cloth, state, number):
        return None
    return (number, way * cloth.facings[number]) if side == 1 else (number, way)


def movers_ahead(cloth, state, gaps, mover):
    """The movers that a mover waits for."""
    found = []
    for number, side, way in mover_feet(cloth, mover):
        ahead = towards(cloth.neighbours[number][side], way)
        if ahead is not None and gaps[towards(cloth.gaps_by_foot[number][side], way)] == 0:
            other = mover_of(cloth, state, ahead[0], ahead[1], way)
            if other is not None:
                found.append(other)
    return found


def find_waits(cloth, state, gaps):
    """For each mover that waits, the list of movers that it waits for."""
    waits = {}
    for number, (low0, low1, count) in enumerate(state):
        movers = []
        if count == 0:
            movers = [(number, side, way) for side in (0, 1) for way in WAYS]
        elif is_tight(cloth, state, number):
            movers = [(number, way) for way in WAYS]
        for mover in movers:
            found = movers_ahead(cloth, state, gaps, mover)
            if found:
                waits[mover] = found
    return waits


def knotted(waits):
    """What is left when movers are left out that wait for none of the others that are left."""
    kept = {}
    for mover, found in waits.items():
        left = [ahead for ahead in found if ahead in waits]
        if left:
            kept[mover] = left
    return kept if len(kept) == len(waits) else knotted(kept)


def foot_cycle(cloth, state, waits, foot):
    """A blocking cycle with a mover of the foot, or None if it is not clamped."""
    number, side = foot
    for way in WAYS:
        mover = mover_of(cloth, state, number, side, way)
        cycle = cycle_through(waits, mover) if mover in waits else None
        if cycle is not None:
            return cycle
    return None


def cycle_through(waits, mover):
    """A shortest cycle of waiting movers that begins with this one, or None."""
    trails = [[mover]]
    reached = set()
    while trails:
        trail = trails.pop(0)
        for ahead in waits[trail[-1]]:
            if ahead == mover:
                return trail
            if ahead not in reached:
                reached.add(ahead)
                trails.append(trail + [ahead])
    return None
