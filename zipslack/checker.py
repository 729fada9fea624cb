"""The checker of certificates. It looks only at what a certificate says, and searches no path of its own."""

from zipslack.clamps import is_blocking_cycle, mover_feet
from zipslack.costs import least_windings, winding_table
from zipslack.errors import IllegalMove
from zipslack.journeys import find_journeys
from zipslack.kinds import is_integer, is_integer_tuple, is_tuple_between
from zipslack.moves import apply_moves
from zipslack.windings import admissible_windings, constraints


def check(cloth, start, goal, value):
    """Whether any value is a certificate for the two states."""
    required = constraints(cloth, start, goal)
    if not is_tuple_between(value, 3, 3):
        return False
    kind, first, second = value
    if not isinstance(first, list) or not isinstance(second, list):
        return False
    if kind == "path":
        return leads(cloth, start, goal, first) and is_full_table(cloth, start, goal, required, len(first), second)
    if kind == "unreachable":
        return refutes(cloth, required, first) and are_foot_cycles(cloth, start, first, second)
    return False


def leads(cloth, start, goal, moves):
    """Whether a list of any values leads from the start to the goal."""
    try:
        return apply_moves(cloth, start, moves) == goal
    except IllegalMove:
        return False


def is_full_table(cloth, start, goal, required, count, table):
    """Whether a list of any values is the table for so many moves, which are a path, and no total in it is less."""
    found = admissible_windings(cloth, required)
    journeys = find_journeys(cloth, start, goal)
    # For more moves than the least total, the table would have to contain that total. It might be very long, too.
    if least_windings(journeys, found)[0] != count:
        return False
    return all([is_table_entry(cloth, entry) for entry in table]) and table == winding_table(journeys, found, count)


def is_table_entry(cloth, value):
    # Without this check True would be equal to 1.
    return is_tuple_between(value, 2, 2) and is_integer_tuple(value[0], len(cloth.rows())) and is_integer(value[1])


def is_part(named, value):
    """Whether any value is a part that names one of these constraints."""
    if not is_tuple_between(value, 3, 3):
        return False
    name, numerator, denominator = value
    if not is_integer(numerator) or not is_integer(denominator) or denominator < 1:
        return False
    return is_constraint_name(name) and name in named


def is_constraint_name(value):
    # What is no such tuple must not reach the dict: True would be found as 1.
    if not is_tuple_between(value, 2, 3) or not isinstance(value[0], str):
        return False
    return all([is_integer(part) for part in value[1:]])


def refutes(cloth, required, parts):
    """Whether a list of any values consists of parts which show that no winding meets the constraints."""
    named = {name: coefficients + (value,) for name, coefficients, value in required}
    if not all([is_part(named, part) for part in parts]):
        return False
    if len(set([name for name, numerator, denominator in parts])) < len(parts):
        return False
    common = 1
    for name, numerator, denominator in parts:
        common *= denominator
    # The last of the sums is the one of the values.
    sums = [0 for row in cloth.rows()] + [0]
    for name, numerator, denominator in parts:
        times = numerator * (common // denominator)
        sums = [total + times * number for total, number in zip(sums, named[name])]
    return all([total % common == 0 for total in sums[:-1]]) and sums[-1] % common != 0


def are_foot_cycles(cloth, start, parts, cycles):
    """Whether a list of any values has, for each part that names a foot, a blocking cycle with a mover of it."""
    feet = [(name[1], name[2]) for name, numerator, denominator in parts if name[0] == "foot"]
    if len(cycles) != len(feet):
        return False
    return all([is_blocking_cycle(cloth, start, cycle) and is_moved(cloth, cycle, foot)
                for cycle, foot in zip(cycles, feet)])


def is_moved(cloth, cycle, foot):
    """Whether one of the movers moves the foot."""
    return any([(number, side) == foot for mover in cycle for number, side, way in mover_feet(cloth, mover)])
