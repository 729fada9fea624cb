"""Small cloths, and all states and all reachable states of a cloth, found without the functions under test."""

import itertools
import random

from zipslack.cloths import Cloth

DIRECTIONS = ("parallel", "reversed")
SORTS = ("line", "ring")


def two_rows(sort0, teeth0, sort1, teeth1, direction="parallel", minimum=0):
    return Cloth(((sort0, teeth0, ((0, 0),)), (sort1, teeth1, ((0, 1),))), ((direction, minimum),))


def one_row(sort, teeth, direction="parallel", minimum=0, feet=((0, 0), (0, 1))):
    return Cloth(((sort, teeth, feet),), ((direction, minimum),))


def shares(total, parts):
    """All ways to share out a total among some parts."""
    if parts == 1:
        return [(total,)]
    return [(first,) + rest for first in range(total + 1) for rest in shares(total - first, parts - 1)]


def row_placements(row, counts):
    """All ways to place the feet of a row, each as a dict from feet to low positions."""
    sort, teeth, feet = row
    free = teeth - sum(counts[number] for number, side in feet)
    if free < 0:
        return []
    if not feet:
        return [{}]
    placements = []
    for start in range(teeth) if sort == "ring" else (0,):
        for gaps in shares(free, len(feet) + (sort == "line")):
            at = start
            lows = {}
            for index, foot in enumerate(feet):
                if sort == "line":
                    at += gaps[index]
                lows[foot] = at
                at += counts[foot[0]]
                if sort == "ring":
                    at += gaps[index]
            placements.append(lows)
    return placements


def states_of(cloth):
    """All states of a cloth, from sharing out the free teeth of each row."""
    most = max(row[1] for row in cloth.rows())
    found = []
    for counts in itertools.product(*[range(minimum, most + 1) for direction, minimum in cloth.zips()]):
        for placements in itertools.product(*[row_placements(row, counts) for row in cloth.rows()]):
            lows = {foot: low for placement in placements for foot, low in placement.items()}
            found.append(tuple((lows[(number, 0)], lows[(number, 1)], count) for number, count in enumerate(counts)))
    return found


def random_cloth(seed, most_teeth, most_zips, most_rows=3, most_minimum=2):
    """A cloth that depends on the seed only."""
    source = random.Random(seed)
    count = source.randint(0, most_zips)
    feet = [(number, side) for number in range(count) for side in (0, 1)]
    source.shuffle(feet)
    rows = source.randint(1, most_rows)
    placed = [[] for row in range(rows)]
    for foot in feet:
        source.choice(placed).append(foot)
    sorts = [source.choice(SORTS) if index < 2 else "line" for index in range(rows)]
    row_tuples = tuple((sort, source.randint(1, most_teeth), tuple(on_row)) for sort, on_row in zip(sorts, placed))
    zips = tuple((source.choice(DIRECTIONS), source.randint(0, most_minimum)) for number in range(count))
    return Cloth(row_tuples, zips)


def components(states, neighbours):
    """For each state the first state of those that are connected with it."""
    found = {}
    for state in states:
        if state not in found:
            found[state] = state
            waiting = [state]
            while waiting:
                for other in neighbours(waiting.pop()):
                    if other not in found:
                        found[other] = state
                        waiting.append(other)
    return found
