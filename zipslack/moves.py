"""Moves: closing and opening zips at their sliders, and slipping the feet of open zips."""

from zipslack.errors import IllegalMove
from zipslack.kinds import is_tuple_between
from zipslack.places import DOWN, WAYS, all_halves, is_half, is_way, slider_way, towards
from zipslack.states import normalized, require_gaps, shift_feet

CLOSE = "close"
OPEN = "open"
SLIP = "slip"


def is_legal(cloth, state, move):
    """Whether any value is a legal move in the state."""
    return can_move(cloth, state, require_gaps(cloth, state), move)


def apply_move(cloth, state, move):
    """The state after one move."""
    return apply_moves(cloth, state, [move])


def apply_moves(cloth, state, moves):
    """The state after a list of moves."""
    gaps = require_gaps(cloth, state)
    entries = list(state)
    for position, move in enumerate(moves):
        if not can_move(cloth, entries, gaps, move):
            raise IllegalMove(position)
        perform(cloth, entries, gaps, move)
    return normalized(cloth, entries)


def legal_moves(cloth, state):
    """All legal moves in ascending order."""
    gaps = require_gaps(cloth, state)
    halves = all_halves(cloth)
    closes = [(CLOSE, number, end) for number, end in halves if can_close(cloth, gaps, number, end)]
    opens = [(OPEN, number, end) for number, end in halves if can_open(cloth, state, number)]
    slips = [(SLIP, number, side, step) for number, side in halves if state[number][2] == 0
             for step in WAYS if can_slip(cloth, gaps, number, side, step)]
    return closes + opens + slips


def can_move(cloth, entries, gaps, move):
    """Whether any value is a legal move where the zips have these entries and the rows these gaps."""
    if is_slide(cloth, move):
        name, number, end = move
        return can_close(cloth, gaps, number, end) if name == CLOSE else can_open(cloth, entries, number)
    if is_slip(cloth, move):
        name, number, side, step = move
        return entries[number][2] == 0 and can_slip(cloth, gaps, number, side, step)
    return False


def is_slide(cloth, value):
    """Whether a value is a close or an open move, legal or not."""
    return is_tuple_between(value, 3, 3) and value[0] in (CLOSE, OPEN) and is_half(cloth, value[1], value[2])


def is_slip(cloth, value):
    """Whether a value is a slip, legal or not."""
    if not is_tuple_between(value, 4, 4) or value[0] != SLIP:
        return False
    return is_half(cloth, value[1], value[2]) and is_way(value[3])


def can_close(cloth, gaps, number, end):
    first, second = cloth.gaps_by_slider[number][end]
    # A gap that is beside the slider at both feet loses two teeth.
    if first == second:
        return gaps[first] > 1
    return gaps[first] > 0 and gaps[second] > 0


def can_open(cloth, entries, number):
    return entries[number][2] > cloth.minimums[number]


def can_slip(cloth, gaps, number, side, step):
    """Whether a foot of an open zip has room for a step."""
    return gaps[towards(cloth.gaps_by_foot[number][side], step)] > 0


def perform(cloth, entries, gaps, move):
    """Changes the entries and the gaps as a legal move does, but leaves the positions on rings as they come."""
    if move[0] == SLIP:
        name, number, side, step = move
        below, above = cloth.gaps_by_foot[number][side]
        gaps[below] += step
        gaps[above] -= step
        shift_feet(entries, [(number, side)], step)
        return
    name, number, end = move
    change = 1 if name == CLOSE else -1
    first, second = cloth.gaps_by_slider[number][end]
    gaps[first] -= change
    gaps[second] -= change
    low0, low1, count = entries[number]
    # Where the slider is at the high position, the low one stays.
    if slider_way(cloth, number, 0, end) == DOWN:
        low0 -= change
    if slider_way(cloth, number, 1, end) == DOWN:
        low1 -= change
    entries[number] = (low0, low1, count + change)
