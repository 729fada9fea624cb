"""Feet and sliders: how they are written, and which way they look along their row."""

from zipslack.cloths import SIDES
from zipslack.kinds import is_integer

DOWN = -1
UP = 1
WAYS = (-1, 1)


def is_half(cloth, number, half):
    """Whether two values are the number of a zip and 0 or 1, which is how feet and sliders are written."""
    return is_integer(number) and is_integer(half) and 0 <= number < len(cloth) and half in SIDES


def is_way(value):
    return is_integer(value) and value in WAYS


def all_halves(cloth):
    return [(number, half) for number in range(len(cloth)) for half in SIDES]


def slider_way(cloth, number, side, end):
    """Which way a slider looks at this foot: up from the high position, or down from the low one."""
    way = UP if end == 1 else DOWN
    return way * cloth.facings[number] if side == 1 else way


def towards(beside, way):
    """Of what is below and above a foot, the one that is this way."""
    below, above = beside
    return above if way == UP else below
