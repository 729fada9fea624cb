"""Windings: how often the rings turn on the way from a start state to a goal state."""

from zipslack.clamps import clamped_feet
from zipslack.kinds import is_integer_tuple
from zipslack.lattices import product, restricted
from zipslack.places import facing
from zipslack.states import require_state


def constraints(cloth, start, goal):
    """The constraints of all bound zips and of all feet that are clamped in the start state, sorted."""
    require_state(cloth, start)
    require_state(cloth, goal)
    bound = [number for number, (direction, minimum) in enumerate(cloth.zips()) if minimum > 0]
    offsets = [offset_constraint(cloth, start, goal, number) for number in bound]
    feet = [foot_constraint(cloth, start, goal, foot) for foot in clamped_feet(cloth, start)]
    return sorted(offsets + feet)


def is_admissible(cloth, start, goal, winding):
    """Whether any value is an admissible winding."""
    required = constraints(cloth, start, goal)
    if not is_winding(cloth, winding):
        return False
    return all([product(coefficients, winding) == value for name, coefficients, value in required])


def find_winding(cloth, start, goal):
    """An admissible winding, or None if there is none."""
    found = (tuple([0 for row in cloth.rows()]), single_turns(cloth))
    for name, coefficients, value in constraints(cloth, start, goal):
        point, steps = found
        found = restricted(point, steps, coefficients, value)
        if found is None:
            return None
    return found[0]


def turn_length(row):
    """How far one turn shifts the positions of a row: not at all where the winding must be 0."""
    sort, teeth, feet = row
    return teeth if sort == "ring" and feet else 0


def is_winding(cloth, value):
    rows = cloth.rows()
    if not is_integer_tuple(value, len(rows)):
        return False
    return all([turns == 0 or turn_length(row) > 0 for turns, row in zip(value, rows)])


def single_turns(cloth):
    """For each row that can turn, the winding in which it alone turns once."""
    rows = cloth.rows()
    turning = [index for index, row in enumerate(rows) if turn_length(row) > 0]
    return [tuple([1 if index == at else 0 for at in range(len(rows))]) for index in turning]


def foot_coefficients(cloth, signs):
    """How much each row's winding adds to a sum of low positions. The feet are given with their signs."""
    rows = cloth.rows()
    coefficients = [0 for row in rows]
    for (number, side), sign in signs:
        index = cloth.row_of(number, side)
        coefficients[index] += sign * turn_length(rows[index])
    return tuple(coefficients)


def offset(cloth, state, number):
    low0, low1, count = state[number]
    return low1 - low0 if facing(cloth, number) == 1 else low0 + low1 + count


def offset_constraint(cloth, start, goal, number):
    signs = [((number, 0), -facing(cloth, number)), ((number, 1), 1)]
    value = offset(cloth, start, number) - offset(cloth, goal, number)
    return (("offset", number), foot_coefficients(cloth, signs), value)


def foot_constraint(cloth, start, goal, foot):
    number, side = foot
    value = start[number][side] - goal[number][side]
    return (("foot", number, side), foot_coefficients(cloth, [(foot, 1)]), value)
