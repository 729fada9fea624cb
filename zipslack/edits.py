"""Edits: changes of a cloth together with its state.

Each edit takes a cloth, a state and the elements of the action behind its name, and returns the new cloth and state.
"""

from zipslack.cloths import DIRECTIONS, MOST_RINGS, MOST_ZIPS, Cloth
from zipslack.errors import InvalidAction, LimitExceeded, UnknownRow, UnknownZip
from zipslack.states import gaps, normalized, shift_feet


def set_minimum(cloth, state, number, minimum):
    require_zip(cloth, number)
    if not 0 <= minimum <= state[number][2]:
        raise InvalidAction()
    zips = cloth.zips()
    direction = zips[number][0]
    return Cloth(cloth.rows(), zips[:number] + ((direction, minimum),) + zips[number + 1:]), state


def join_ends(cloth, state, index):
    require_row(cloth, index)
    sort, teeth, feet = cloth.rows()[index]
    if sort == "ring":
        raise InvalidAction()
    if [row[0] for row in cloth.rows()].count("ring") == MOST_RINGS:
        raise LimitExceeded(MOST_RINGS)
    joined = with_row(cloth, index, ("ring", teeth, feet))
    # A foot behind the last tooth is now in front of the first one.
    return joined, normalized(joined, state)


def cut(cloth, state, index, gap, teeth_before):
    require_row(cloth, index)
    sort, teeth, feet = cloth.rows()[index]
    if sort == "line" or not is_in_gap(cloth, state, index, gap, teeth_before):
        raise InvalidAction()
    entries = list(state)
    after, before = feet[gap + 1:], feet[:gap + 1]
    if feet:
        number, side = feet[gap]
        start = state[number][side] + state[number][2] + teeth_before
        shift_feet(entries, after, -start)
        # What was before the cut comes now behind the rest, one round later.
        shift_feet(entries, before, teeth - start)
    return with_row(cloth, index, ("line", teeth, after + before)), tuple(entries)


def add_zip(cloth, state, direction, row0, gap0, teeth0, row1, gap1, teeth1):
    require_row(cloth, row0)
    require_row(cloth, row1)
    if direction not in DIRECTIONS:
        raise InvalidAction()
    if not is_in_gap(cloth, state, row0, gap0, teeth0) or not is_in_gap(cloth, state, row1, gap1, teeth1):
        raise InvalidAction()
    if len(cloth) == MOST_ZIPS:
        raise LimitExceeded(MOST_ZIPS)
    number = len(cloth)
    # In the same gap the foot behind fewer teeth comes first, and then foot 0.
    added = sorted([(row0, gap0, teeth0, 0), (row1, gap1, teeth1, 1)])
    rows = tuple([with_feet(row, [(gap, (number, side)) for at, gap, teeth, side in added if at == index])
                  for index, row in enumerate(cloth.rows())])
    entry = (gap_start(cloth, state, row0, gap0) + teeth0, gap_start(cloth, state, row1, gap1) + teeth1, 0)
    wider = Cloth(rows, cloth.zips() + ((direction, 0),))
    return wider, normalized(wider, state + (entry,))


def remove_zip(cloth, state, number):
    require_zip(cloth, number)
    if state[number][2] > 0:
        raise InvalidAction()
    rows = tuple([(sort, teeth, without_zip(feet, number)) for sort, teeth, feet in cloth.rows()])
    zips = cloth.zips()
    smaller = Cloth(rows, zips[:number] + zips[number + 1:])
    # Another foot may be the first one of a ring now.
    return smaller, normalized(smaller, state[:number] + state[number + 1:])


def require_row(cloth, index):
    if not 0 <= index < len(cloth.rows()):
        raise UnknownRow(index)


def require_zip(cloth, number):
    if not 0 <= number < len(cloth):
        raise UnknownZip(number)


def with_row(cloth, index, row):
    """The cloth with another row in the place of one."""
    rows = cloth.rows()
    return Cloth(rows[:index] + (row,) + rows[index + 1:], cloth.zips())


def is_in_gap(cloth, state, index, gap, teeth_before):
    """Whether there is such a gap in a row, with so many teeth or more."""
    sizes = gaps(cloth, state)[index]
    return 0 <= gap < len(sizes) and 0 <= teeth_before <= sizes[gap]


def gap_start(cloth, state, index, gap):
    """The position where a gap of a row starts."""
    sort, teeth, feet = cloth.rows()[index]
    # On a line the first gap is before the first foot, on a ring it is behind it.
    behind = gap - 1 if sort == "line" else gap
    if behind < 0 or not feet:
        return 0
    number, side = feet[behind]
    return state[number][side] + state[number][2]


def with_feet(row, added):
    """The row with more feet, each given with the gap that it is placed in."""
    sort, teeth, feet = row
    found = []
    for gap in range(len(feet) + 1):
        if sort == "ring" and gap < len(feet):
            found.append(feet[gap])
        found.extend([foot for at, foot in added if at == gap])
        if sort == "line" and gap < len(feet):
            found.append(feet[gap])
    return (sort, teeth, tuple(found))


def without_zip(feet, number):
    """The feet without those of a zip, with the numbers of later zips decreased by 1."""
    return tuple([(other - 1 if other > number else other, side) for other, side in feet if other != number])


EDITS = {
    "set_minimum": set_minimum,
    "join_ends": join_ends,
    "cut": cut,
    "add_zip": add_zip,
    "remove_zip": remove_zip,
}
