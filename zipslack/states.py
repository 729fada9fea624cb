"""States: where the feet of a cloth are, and how many pairs its zips have."""

from zipslack.errors import InvalidState


def is_state(cloth, value):
    """Whether any value is a state of the cloth."""
    return find_gaps(cloth, value) is not None


def has_entries(cloth, value):
    """Whether a value has one entry for each zip, each with no fewer pairs than the zip's minimum."""
    if not isinstance(value, tuple) or len(value) != len(cloth.minimums):
        return False
    # Nearly every call checks a state, so this is written without further calls.
    for entry, minimum in zip(value, cloth.minimums):
        if not isinstance(entry, tuple) or len(entry) != 3:
            return False
        low0, low1, count = entry
        if not isinstance(low0, int) or not isinstance(low1, int) or not isinstance(count, int):
            return False
        if low0 is True or low0 is False or low1 is True or low1 is False or count is True or count is False:
            return False
        if count < minimum:
            return False
    return True


def find_gaps(cloth, value):
    """The gaps of all rows by their numbers (see layouts), or None if the value is not a state of the cloth."""
    if not has_entries(cloth, value):
        return None
    found = []
    for sort, teeth, feet in cloth.rows():
        at = 0
        if sort == "ring" and feet:
            number, side = feet[0]
            at = value[number][side]
            if not 0 <= at < teeth:
                return None
        end = at + teeth
        for number, side in feet:
            entry = value[number]
            low = entry[side]
            if low < at:
                return None
            found.append(low - at)
            at = low + entry[2]
        if at > end:
            return None
        found.append(end - at)
    return found


def require_gaps(cloth, state):
    """The gaps of all rows by their numbers."""
    found = find_gaps(cloth, state)
    if found is None:
        raise InvalidState()
    return found


def require_state(cloth, state):
    if not is_state(cloth, state):
        raise InvalidState()


def normalized(cloth, placement):
    """The state of a placement: the positions of each ring shifted, so that its first foot is on the first round."""
    entries = list(placement)
    for sort, teeth, feet in cloth.rows():
        if sort == "ring" and feet:
            number, side = feet[0]
            shift = placement[number][side] // teeth * teeth
            if shift != 0:
                shift_feet(entries, feet, -shift)
    return tuple(entries)


def shift_feet(entries, feet, shift):
    """Changes the low positions of some feet by the same number."""
    for number, side in feet:
        low0, low1, count = entries[number]
        entries[number] = (low0 + shift, low1, count) if side == 0 else (low0, low1 + shift, count)


def gaps(cloth, state):
    """One tuple of gaps for each row."""
    numbered = require_gaps(cloth, state)
    found = []
    start = 0
    for sort, teeth, feet in cloth.rows():
        stop = start + len(feet) + 1
        # The first number of a ring with feet stands for no gap.
        found.append(tuple(numbered[start + 1:stop] if sort == "ring" and feet else numbered[start:stop]))
        start = stop
    return tuple(found)


def pairs(cloth, state):
    """All pairs of teeth, zip by zip, each from the low position of side 0 upwards."""
    require_state(cloth, state)
    found = []
    for number, (direction, minimum) in enumerate(cloth.zips()):
        first = foot_teeth(cloth, state, number, 0)
        second = foot_teeth(cloth, state, number, 1)
        if direction == "reversed":
            second = second[::-1]
        found.extend(list(zip(first, second)))
    return found


def foot_teeth(cloth, state, number, side):
    """The teeth that a foot occupies, as tuples of row and tooth, from its low position upwards."""
    row = cloth.row_by_foot[(number, side)]
    teeth = cloth.rows()[row][1]
    low = state[number][side]
    # On a ring, positions of `teeth` and more count on around the ring.
    return [(row, position % teeth) for position in range(low, low + state[number][2])]
