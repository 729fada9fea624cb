"""Moves: closing and opening zips at their sliders, and slipping the feet of open zips."""

from zipslack.cloths import SIDES
from zipslack.errors import IllegalMove
from zipslack.kinds import is_integer, is_tuple_between
from zipslack.places import DOWN, WAYS, all_halves, gap_place, is_half, slider_way
from zipslack.states import normalized, require_state, row_gaps

CLOSE = "close"
OPEN = "open"
SLIP = "slip"


def is_legal(cloth, state, move):
    """Whether any value is a legal move in the state."""
    require_state(cloth, state)
    return can_move(cloth, state, move)


def apply_move(cloth, state, move):
    """The state after one move."""
    return apply_moves(cloth, state, [move])


def apply_moves(cloth, state, moves):
    """The state after a list of moves."""
    require_state(cloth, state)
    reached = state
    for position, move in enumerate(moves):
        if not can_move(cloth, reached, move):
            raise IllegalMove(position)
        reached = moved(cloth, reached, move)
    return reached


def legal_moves(cloth, state):
    """All legal moves in ascending order."""
    require_state(cloth, state)
    return sorted([move for move in all_moves(cloth) if can_move(cloth, state, move)])


def all_moves(cloth):
    """Every move of the cloth's zips, legal or not."""
    halves = all_halves(cloth)
    slides = [(name, number, end) for name in (CLOSE, OPEN) for number, end in halves]
    slips = [(SLIP, number, side, step) for number, side in halves for step in WAYS]
    return slides + slips


def is_slide(cloth, value):
    """Whether a value is a close or an open move, legal or not."""
    return is_tuple_between(value, 3, 3) and value[0] in (CLOSE, OPEN) and is_half(cloth, value[1:])


def is_slip(cloth, value):
    """Whether a value is a slip, legal or not."""
    if not is_tuple_between(value, 4, 4) or value[0] != SLIP:
        return False
    return is_half(cloth, value[1:3]) and is_integer(value[3]) and value[3] in WAYS


def can_move(cloth, state, move):
    if is_slip(cloth, move):
        return can_slip(cloth, state, (move[1], move[2]), move[3])
    if not is_slide(cloth, move):
        return False
    name, number, end = move
    if name == CLOSE:
        return can_close(cloth, state, number, end)
    return state[number][2] > cloth.zips()[number][1]


def can_slip(cloth, state, foot, step):
    return state[foot[0]][2] == 0 and gap_at(cloth, state, gap_place(cloth, foot, step)) > 0


def can_close(cloth, state, number, end):
    feet = [(number, side) for side in SIDES]
    places = [gap_place(cloth, foot, slider_way(cloth, foot, end)) for foot in feet]
    # A gap that is beside the slider at both feet loses two teeth.
    return all([gap_at(cloth, state, place) >= places.count(place) for place in places])


def gap_at(cloth, state, place):
    index, at = place
    return row_gaps(cloth.rows()[index], state)[at]


def moved(cloth, state, move):
    """The state after a move that is legal."""
    number = move[1]
    entry = list(state[number])
    if move[0] == SLIP:
        entry[move[2]] += move[3]
    else:
        change = 1 if move[0] == CLOSE else -1
        entry[2] += change
        for side in SIDES:
            # At the high position the low one stays.
            if slider_way(cloth, (number, side), move[2]) == DOWN:
                entry[side] -= change
    return normalized(cloth, state[:number] + (tuple(entry),) + state[number + 1:])
