"""Windings: how often the rings turn on the way from a start state to a goal state."""

from zipslack.clamps import find_clamped
from zipslack.kinds import is_integer_tuple
from zipslack.lattices import product, restricted
from zipslack.states import require_gaps, require_state


def constraints(cloth, start, goal):
    """The constraints of all bound zips and of all feet that are clamped in the start state, sorted."""
    gaps = require_gaps(cloth, start)
    require_state(cloth, goal)
    return find_constraints(cloth, start, goal, gaps)


def is_admissible(cloth, start, goal, winding):
    """Whether any value is an admissible winding."""
    gaps = require_gaps(cloth, start)
    require_state(cloth, goal)
    if not is_winding(cloth, winding):
        return False
    required = find_constraints(cloth, start, goal, gaps)
    return all([product(coefficients, winding) == value for name, coefficients, value in required])


def find_winding(cloth, start, goal):
    """An admissible winding, or None if there is none."""
    found = admissible_windings(cloth, constraints(cloth, start, goal))
    return None if found is None else found[0]


def admissible_windings(cloth, required):
    """The windings that meet all constraints, as a point and steps (see lattices), or None if there are none."""
    found = every_winding(cloth)
    for name, coefficients, value in required:
        point, steps = found
        found = restricted(point, steps, coefficients, value)
        if found is None:
            return None
    return found


def find_constraints(cloth, start, goal, gaps):
    """The constraints for a start state with these gaps, sorted."""
    feet = [foot_constraint(cloth, start, goal, foot) for foot in find_clamped(cloth, start, gaps)]
    bound = [number for number, minimum in enumerate(cloth.minimums) if minimum > 0]
    # Names of feet come before names of offsets, and both lists are in ascending order.
    return feet + [offset_constraint(cloth, start, goal, number) for number in bound]


def is_winding(cloth, value):
    if not is_integer_tuple(value, len(cloth.turns)):
        return False
    return all([count == 0 or length > 0 for count, length in zip(value, cloth.turns)])


def every_winding(cloth):
    """All windings, as the one without turns and, for each row that can turn, the one in which it alone turns once."""
    size = len(cloth.turns)
    turning = [index for index, length in enumerate(cloth.turns) if length > 0]
    point = tuple([0 for length in cloth.turns])
    return point, [tuple([1 if index == at else 0 for at in range(size)]) for index in turning]


def offset(cloth, state, number):
    low0, low1, count = state[number]
    return low1 - low0 if cloth.facings[number] == 1 else low0 + low1 + count


def offset_constraint(cloth, start, goal, number):
    coefficients = [0 for row in cloth.turns]
    row0 = cloth.row_by_foot[(number, 0)]
    row1 = cloth.row_by_foot[(number, 1)]
    coefficients[row0] -= cloth.facings[number] * cloth.turns[row0]
    coefficients[row1] += cloth.turns[row1]
    value = offset(cloth, start, number) - offset(cloth, goal, number)
    return (("offset", number), tuple(coefficients), value)


def foot_constraint(cloth, start, goal, foot):
    number, side = foot
    coefficients = [0 for row in cloth.turns]
    row = cloth.row_by_foot[foot]
    coefficients[row] = cloth.turns[row]
    return (("foot", number, side), tuple(coefficients), start[number][side] - goal[number][side])
