"""Cloths: rows of teeth, and the zips that join them."""

from zipslack.errors import InvalidCloth, UnknownZip
from zipslack.kinds import is_integer, is_integer_between, is_integer_tuple, is_tuple_between
from zipslack.layouts import by_number, gaps_of_feet, gaps_of_sliders, neighbours_of_feet, turn_lengths

SORTS = ("line", "ring")
DIRECTIONS = ("parallel", "reversed")
SIDES = (0, 1)
MOST_ROWS = 6
MOST_RINGS = 2
MOST_TEETH = 24
MOST_ZIPS = 8
MOST_MINIMUM = 24


def is_row(value):
    """Whether a value is a row by itself; whether its feet belong to zips is checked later."""
    if not is_tuple_between(value, 3, 3):
        return False
    sort, teeth, feet = value
    if sort not in SORTS or not is_integer_between(teeth, 1, MOST_TEETH):
        return False
    return isinstance(feet, tuple) and all([is_integer_tuple(foot, 2) for foot in feet])


def is_zip(value):
    if not is_tuple_between(value, 2, 2):
        return False
    direction, minimum = value
    return direction in DIRECTIONS and is_integer_between(minimum, 0, MOST_MINIMUM)


def check_rows(rows):
    if not is_tuple_between(rows, 1, MOST_ROWS):
        raise InvalidCloth("rows", -1)
    rings = 0
    for index, row in enumerate(rows):
        if not is_row(row):
            raise InvalidCloth("rows", index)
        if row[0] == "ring":
            rings += 1
        if rings > MOST_RINGS:
            raise InvalidCloth("rows", index)


def check_zips(zips):
    if not is_tuple_between(zips, 0, MOST_ZIPS):
        raise InvalidCloth("zips", -1)
    for index, entry in enumerate(zips):
        if not is_zip(entry):
            raise InvalidCloth("zips", index)


def check_feet(rows, zips):
    placed = set()
    for index, row in enumerate(rows):
        for number, side in row[2]:
            known = 0 <= number < len(zips) and side in SIDES
            if not known or (number, side) in placed:
                raise InvalidCloth("feet", index)
            placed.add((number, side))
    if len(placed) < len(SIDES) * len(zips):
        raise InvalidCloth("feet", len(rows))


def row_text(row):
    sort, teeth, feet = row
    return " ".join([sort, str(teeth)] + [f"{number}.{side}" for number, side in feet])


def zip_text(entry):
    direction, minimum = entry
    return f"{direction} {minimum}"


class Cloth:
    """An immutable cloth. Its length is its number of zips."""

    def __init__(self, rows, zips=()):
        check_rows(rows)
        check_zips(zips)
        check_feet(rows, zips)
        self.row_tuples = rows
        self.zip_tuples = zips
        self.row_by_foot = {foot: index for index, row in enumerate(rows) for foot in row[2]}
        # The other modules look these up at every call, so they are found once.
        self.minimums = tuple([minimum for direction, minimum in zips])
        self.facings = tuple([-1 if direction == "reversed" else 1 for direction, minimum in zips])
        self.turns = turn_lengths(rows)
        self.neighbours = by_number(neighbours_of_feet(rows), len(zips))
        self.gaps_by_foot = by_number(gaps_of_feet(rows), len(zips))
        self.gaps_by_slider = gaps_of_sliders(zips, self.gaps_by_foot)

    def __eq__(self, other):
        return (isinstance(other, Cloth) and self.row_tuples == other.row_tuples
                and self.zip_tuples == other.zip_tuples)

    def __len__(self):
        return len(self.zip_tuples)

    def __str__(self):
        return "\n".join([row_text(row) for row in self.row_tuples] + [zip_text(entry) for entry in self.zip_tuples])

    def __repr__(self):
        return f"Cloth({len(self.row_tuples)} rows, {len(self.zip_tuples)} zips)"

    def rows(self):
        return self.row_tuples

    def zips(self):
        return self.zip_tuples

    def row_of(self, number, side):
        """The index of the row on which this foot is placed."""
        # A value that is no integer must not reach the dict: True would be found as 1.
        if not is_integer(number) or not is_integer(side) or (number, side) not in self.row_by_foot:
            raise UnknownZip(number)
        return self.row_by_foot[(number, side)]
