"""Places along the rows: what is beside a foot, and where the sliders of a zip are."""

from zipslack.cloths import SIDES
from zipslack.kinds import is_integer_tuple

DOWN = -1
UP = 1
WAYS = (-1, 1)


def is_half(cloth, value):
    """Whether a value is the number of a zip and 0 or 1, which is how feet and sliders are written."""
    return is_integer_tuple(value, 2) and 0 <= value[0] < len(cloth) and value[1] in SIDES


def all_halves(cloth):
    return [(number, half) for number in range(len(cloth)) for half in SIDES]


def facing(cloth, number):
    """1 if side 1 of a zip points the same way along its row as side 0, and -1 if it points the other way."""
    return -1 if cloth.zips()[number][0] == "reversed" else 1


def slider_way(cloth, foot, end):
    """Which way a slider looks at this foot: up from the high position, or down from the low one."""
    number, side = foot
    way = UP if end == 1 else DOWN
    return way * facing(cloth, number) if side == 1 else way


def gap_place(cloth, foot, way):
    """The gap above or below a foot, as its row and its index among the gaps of this row."""
    number, side = foot
    index = cloth.row_of(number, side)
    sort, teeth, feet = cloth.rows()[index]
    # Only a line has a gap before its first foot.
    above = feet.index(foot) + (1 if sort == "line" else 0)
    return (index, above) if way == UP else (index, (above - 1) % len(feet))


def foot_ahead(cloth, foot, way):
    """The foot at the other end of the gap above or below a foot, or None at the end of a line."""
    number, side = foot
    sort, teeth, feet = cloth.rows()[cloth.row_of(number, side)]
    at = feet.index(foot) + way
    if sort == "ring":
        return feet[at % len(feet)]
    return feet[at] if 0 <= at < len(feet) else None
