"""Costs, distances and certificates, straight from the words of the document."""

import fractions
import itertools

from zipslack.clamps import is_blocking_cycle
from zipslack.moves import apply_move, is_legal, legal_moves
from zipslack.windings import constraints, is_admissible


def neighbours(cloth):
    """What leads from a state of the cloth to the states after one move."""
    return lambda state: [apply_move(cloth, state, move) for move in legal_moves(cloth, state)]


def low(cloth, state, number, side, winding):
    row = cloth.row_of(number, side)
    return state[number][side] + winding[row] * cloth.rows()[row][1]


def direct_cost(cloth, start, goal, winding, number):
    """The cost of one zip as point [18] describes it."""
    still = (0,) * len(winding)
    c, d = start[number][2], goal[number][2]
    x = low(cloth, goal, number, 0, winding) - low(cloth, start, number, 0, still)
    if cloth.zips()[number][0] == "parallel":
        y = low(cloth, goal, number, 1, winding) - low(cloth, start, number, 1, still)
    else:
        y = low(cloth, start, number, 1, still) + c - (low(cloth, goal, number, 1, winding) + d)
    e = x - y
    if e == 0:
        return abs(x) + abs(x + d - c)
    first = range(x - c, x + d + 1)
    second = range(min(0, e), max(0, e) + 1)
    g = min(abs(a - b) for a in first for b in second)
    return c + d + abs(e) + 2 * g


def direct_costs(cloth, start, goal, winding):
    return tuple(direct_cost(cloth, start, goal, winding, number) for number in range(len(cloth)))


def direct_bound(cloth, start, goal, winding):
    """The lower bound as point [19] describes it."""
    total = 0
    for number in range(len(cloth)):
        indices = [cloth.row_of(number, side) for side in (0, 1)]
        if indices[0] != indices[1] and all(cloth.rows()[index][0] == "ring" for index in indices):
            total += max(max(0, (abs(winding[index]) - 2) * cloth.rows()[index][1] + 1) for index in indices)
        else:
            total += direct_cost(cloth, start, goal, winding, number)
    return total


def windings_of(cloth, most):
    """All windings with at most so many turns of each ring."""
    spans = [range(-most, most + 1) if sort == "ring" and feet else (0,) for sort, teeth, feet in cloth.rows()]
    return itertools.product(*spans)


def most_turns(cloth, limit):
    """No winding with more turns of a ring has a lower bound up to the limit."""
    return 2 + limit // min([teeth for sort, teeth, feet in cloth.rows() if sort == "ring" and feet], default=1)


def direct_table(cloth, start, goal, limit):
    """The table of point [21] for so many moves."""
    return [(winding, sum(direct_costs(cloth, start, goal, winding)))
            for winding in windings_of(cloth, most_turns(cloth, limit))
            if is_admissible(cloth, start, goal, winding) and direct_bound(cloth, start, goal, winding) <= limit]


def is_integer(value):
    return type(value) is int


def is_list_of(value, size):
    """Whether a value is a list of tuples of this size."""
    return type(value) is list and all(type(part) is tuple and len(part) == size for part in value)


def leads_to(cloth, start, goal, moves):
    state = start
    for move in moves:
        if not is_legal(cloth, state, move):
            return False
        state = apply_move(cloth, state, move)
    return state == goal


def is_path_certificate(cloth, start, goal, moves, table):
    if type(moves) is not list or not is_list_of(table, 2) or not leads_to(cloth, start, goal, moves):
        return False
    for winding, total in table:
        if type(winding) is not tuple or not all(map(is_integer, winding)) or not is_integer(total):
            return False
    return table == direct_table(cloth, start, goal, len(moves)) and all(total >= len(moves) for w, total in table)


def is_unreachable_certificate(cloth, start, goal, parts, cycles):
    if not is_list_of(parts, 3) or type(cycles) is not list:
        return False
    required = constraints(cloth, start, goal)
    names = [name for name, coefficients, value in required]
    sums = [fractions.Fraction(0)] * (len(cloth.rows()) + 1)
    for name, numerator, denominator in parts:
        known = type(name) is tuple and name in names and all(map(is_integer, name[1:]))
        if not known or not is_integer(numerator) or not is_integer(denominator) or denominator < 1:
            return False
        name, coefficients, value = required[names.index(name)]
        sums = [total + fractions.Fraction(numerator, denominator) * number
                for total, number in zip(sums, coefficients + (value,))]
    used = [name for name, numerator, denominator in parts]
    if len(used) != len(set(used)) or any(total.denominator > 1 for total in sums[:-1]) or sums[-1].denominator == 1:
        return False
    feet = [name[1:] for name in used if name[0] == "foot"]
    return len(feet) == len(cycles) and all(
        is_blocking_cycle(cloth, start, cycle)
        and any(foot[0] == mover[0] and (len(mover) == 2 or foot[1] == mover[1]) for mover in cycle)
        for foot, cycle in zip(feet, cycles))


def is_certificate(cloth, start, goal, value):
    """Whether a value is a certificate as point [21] describes it."""
    if type(value) is not tuple or len(value) != 3:
        return False
    if value[0] == "path":
        return is_path_certificate(cloth, start, goal, value[1], value[2])
    return value[0] == "unreachable" and is_unreachable_certificate(cloth, start, goal, value[1], value[2])
