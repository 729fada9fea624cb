"""Clamped feet: feet that never move, because the movers around them wait for each other."""

from zipslack.errors import NotClamped
from zipslack.kinds import is_integer_tuple
from zipslack.places import WAYS, all_halves, facing, foot_ahead, gap_place, is_half
from zipslack.states import require_state, row_gaps


def clamped_feet(cloth, state):
    """All clamped feet in ascending order."""
    require_state(cloth, state)
    waits = find_waits(cloth, state)
    return sorted([foot for foot in all_halves(cloth) if foot_cycle(cloth, state, waits, foot) is not None])


def blocking_cycle(cloth, state, foot):
    """A blocking cycle with a mover of the foot."""
    require_state(cloth, state)
    cycle = foot_cycle(cloth, state, find_waits(cloth, state), foot) if is_half(cloth, foot) else None
    if cycle is None:
        raise NotClamped(foot)
    return cycle


def is_blocking_cycle(cloth, state, value):
    """Whether any value is a blocking cycle of the state."""
    require_state(cloth, state)
    if not isinstance(value, list) or len(value) == 0:
        return False
    waits = find_waits(cloth, state)
    if not all([is_mover(waits, part) for part in value]) or len(set(value)) < len(value):
        return False
    return all([ahead in waits[mover] for mover, ahead in zip(value, value[1:] + value[:1])])


def is_mover(waits, value):
    # A value that is no tuple of integers must not reach the dict: True would be found as 1.
    return (is_integer_tuple(value, 2) or is_integer_tuple(value, 3)) and value in waits


def mover_of(cloth, state, foot, way):
    """The mover that moves a foot this way along its row, or None if its zip has no movers."""
    number, side = foot
    count = state[number][2]
    if count == 0:
        return (number, side, way)
    # A joined zip has no fewer pairs than its minimum, so a zip that is not bound is never tight.
    if count > cloth.zips()[number][1]:
        return None
    return (number, way * facing(cloth, number)) if side == 1 else (number, way)


def find_waits(cloth, state):
    """For each mover the list of movers that it waits for."""
    waits = {}
    for foot in all_halves(cloth):
        for way in WAYS:
            mover = mover_of(cloth, state, foot, way)
            if mover is not None:
                waits[mover] = waits.get(mover, []) + movers_ahead(cloth, state, foot, way)
    return waits


def movers_ahead(cloth, state, foot, way):
    """The mover that keeps a foot from moving this way, as a list of one or of none."""
    index, at = gap_place(cloth, foot, way)
    ahead = foot_ahead(cloth, foot, way)
    if ahead is None or row_gaps(cloth.rows()[index], state)[at] > 0:
        return []
    mover = mover_of(cloth, state, ahead, way)
    return [] if mover is None else [mover]


def foot_cycle(cloth, state, waits, foot):
    """A blocking cycle with a mover of the foot, or None if it is not clamped."""
    for way in WAYS:
        mover = mover_of(cloth, state, foot, way)
        cycle = None if mover is None else cycle_through(waits, mover)
        if cycle is not None:
            return cycle
    return None


def cycle_through(waits, mover):
    """A shortest cycle of waiting movers that begins with this one, or None."""
    trails = [[mover]]
    reached = set()
    while trails:
        trail = trails.pop(0)
        for ahead in waits[trail[-1]]:
            if ahead == mover:
                return trail
            if ahead not in reached:
                reached.add(ahead)
                trails.append(trail + [ahead])
    return None
