"""States: where the feet of a cloth are, and how many pairs its zips have."""

from zipslack.errors import InvalidState
from zipslack.kinds import is_integer_tuple, is_tuple_between


def is_state(cloth, value):
    """Whether any value is a state of the cloth."""
    if not is_tuple_between(value, len(cloth), len(cloth)):
        return False
    if not all([is_integer_tuple(entry, 3) for entry in value]):
        return False
    if any([entry[2] < minimum for entry, (direction, minimum) in zip(value, cloth.zips())]):
        return False
    return all([fits_row(row, value) for row in cloth.rows()])


def fits_row(row, placement):
    """Whether the feet of a row keep their order and stay on the row."""
    sort, teeth, feet = row
    if sort == "ring" and feet:
        number, side = feet[0]
        if not 0 <= placement[number][side] < teeth:
            return False
    return all([gap >= 0 for gap in row_gaps(row, placement)])


def row_gaps(row, placement):
    """The gaps of a row. Where feet are out of order or off the row, one of them is negative."""
    sort, teeth, feet = row
    lows = [placement[number][side] for number, side in feet]
    highs = [placement[number][side] + placement[number][2] for number, side in feet]
    if sort == "line":
        ends = lows + [teeth]
        starts = [0] + highs
    elif feet:
        ends = lows[1:] + [lows[0] + teeth]
        starts = highs
    else:
        return (teeth,)
    return tuple([end - start for start, end in zip(starts, ends)])


def normalized(cloth, placement):
    """The same placement with the positions of each ring shifted, so that its first foot is on the first round."""
    entries = [list(entry) for entry in placement]
    for sort, teeth, feet in cloth.rows():
        if sort == "ring" and feet:
            first, first_side = feet[0]
            shift = placement[first][first_side] // teeth * teeth
            for number, side in feet:
                entries[number][side] -= shift
    return tuple([tuple(entry) for entry in entries])


def require_state(cloth, state):
    if not is_state(cloth, state):
        raise InvalidState()


def gaps(cloth, state):
    """One tuple of gaps for each row."""
    require_state(cloth, state)
    return tuple([row_gaps(row, state) for row in cloth.rows()])


def pairs(cloth, state):
    """All pairs of teeth, zip by zip, each from the low position of side 0 upwards."""
    require_state(cloth, state)
    found = []
    for number, (direction, minimum) in enumerate(cloth.zips()):
        first = foot_teeth(cloth, state, number, 0)
        second = foot_teeth(cloth, state, number, 1)
        if direction == "reversed":
            second = second[::-1]
        found.extend(list(zip(first, second)))
    return found


def foot_teeth(cloth, state, number, side):
    """The teeth that a foot occupies, as tuples of row and tooth, from its low position upwards."""
    row = cloth.row_of(number, side)
    teeth = cloth.rows()[row][1]
    low = state[number][side]
    # On a ring, positions of `teeth` and more count on around the ring.
    return [(row, position % teeth) for position in range(low, low + state[number][2])]
