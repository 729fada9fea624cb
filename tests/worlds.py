"""Small cloths, and all states and all reachable states of a cloth, found without the functions under test."""

import collections
import itertools
import random

from zipslack.cloths import Cloth

DIRECTIONS = ("parallel", "reversed")
SORTS = ("line", "ring")


def two_rows(sort0, teeth0, sort1, teeth1, direction="parallel", minimum=0):
    return Cloth(((sort0, teeth0, ((0, 0),)), (sort1, teeth1, ((0, 1),))), ((direction, minimum),))


def one_row(sort, teeth, direction="parallel", minimum=0, feet=((0, 0), (0, 1))):
    return Cloth(((sort, teeth, feet),), ((direction, minimum),))


def shares(total, parts):
    """All ways to share out a total among some parts."""
    if parts == 1:
        return [(total,)]
    return [(first,) + rest for first in range(total + 1) for rest in shares(total - first, parts - 1)]


def row_placements(row, counts):
    """All ways to place the feet of a row, each as a dict from feet to low positions."""
    sort, teeth, feet = row
    free = teeth - sum(counts[number] for number, side in feet)
    if free < 0:
        return []
    if not feet:
        return [{}]
    placements = []
    for start in range(teeth) if sort == "ring" else (0,):
        for gaps in shares(free, len(feet) + (sort == "line")):
            at = start
            lows = {}
            for index, foot in enumerate(feet):
                if sort == "line":
                    at += gaps[index]
                lows[foot] = at
                at += counts[foot[0]]
                if sort == "ring":
                    at += gaps[index]
            placements.append(lows)
    return placements


def states_of(cloth):
    """All states of a cloth, from sharing out the free teeth of each row."""
    most = max(row[1] for row in cloth.rows())
    found = []
    for counts in itertools.product(*[range(minimum, most + 1) for direction, minimum in cloth.zips()]):
        for placements in itertools.product(*[row_placements(row, counts) for row in cloth.rows()]):
            lows = {foot: low for placement in placements for foot, low in placement.items()}
            found.append(tuple((lows[(number, 0)], lows[(number, 1)], count) for number, count in enumerate(counts)))
    return found


def random_cloth(seed, most_teeth, most_zips, most_rows=3, most_minimum=2):
    """A cloth that depends on the seed only."""
    source = random.Random(seed)
    count = source.randint(0, most_zips)
    feet = [(number, side) for number in range(count) for side in (0, 1)]
    source.shuffle(feet)
    rows = source.randint(1, most_rows)
    placed = [[] for row in range(rows)]
    for foot in feet:
        source.choice(placed).append(foot)
    sorts = [source.choice(SORTS) if index < 2 else "line" for index in range(rows)]
    row_tuples = tuple((sort, source.randint(1, most_teeth), tuple(on_row)) for sort, on_row in zip(sorts, placed))
    zips = tuple((source.choice(DIRECTIONS), source.randint(0, most_minimum)) for number in range(count))
    return Cloth(row_tuples, zips)


def components(states, neighbours):
    """For each state the first state of those that are connected with it."""
    found = {}
    for state in states:
        if state not in found:
            found[state] = state
            waiting = [state]
            while waiting:
                for other in neighbours(waiting.pop()):
                    if other not in found:
                        found[other] = state
                        waiting.append(other)
    return found


def moves_from(cloth, start, neighbours):
    """For each state that moves lead to, the least number of moves, by a breadth-first search."""
    counts = {start: 0}
    waiting = collections.deque([start])
    while waiting:
        state = waiting.popleft()
        for other in neighbours(state):
            if other not in counts:
                counts[other] = counts[state] + 1
                waiting.append(other)
    return counts


def random_state(cloth, source, most_pairs=4):
    """A state of a cloth from a random source, or None if none was found."""
    for attempt in range(60):
        counts = [minimum + source.choice((0, 0, 0, 1, 2, most_pairs)) for direction, minimum in cloth.zips()]
        placements = [random_placement(row, counts, source) for row in cloth.rows()]
        if None not in placements:
            lows = {foot: low for placement in placements for foot, low in placement.items()}
            return tuple((lows[(number, 0)], lows[(number, 1)], count) for number, count in enumerate(counts))
    return None


def random_placement(row, counts, source):
    """One way to place the feet of a row, as a dict from feet to low positions, or None if they do not fit."""
    sort, teeth, feet = row
    free = teeth - sum(counts[number] for number, side in feet)
    if free < 0:
        return None
    gaps = [0] * (len(feet) + 1)
    for tooth in range(free):
        gaps[source.randrange(len(gaps))] += 1
    at = gaps.pop(0) if sort == "line" else source.randrange(teeth)
    lows = {}
    for foot, gap in zip(feet, gaps):
        lows[foot] = at
        at += counts[foot[0]] + gap
    return lows


def large_cloth(source, most_minimum=3):
    """A cloth of any allowed size from a random source."""
    count = source.randint(0, 8)
    feet = [(number, side) for number in range(count) for side in (0, 1)]
    source.shuffle(feet)
    placed = [[] for row in range(source.randint(1, 6))]
    for foot in feet:
        source.choice(placed).append(foot)
    rings = source.sample(range(len(placed)), min(len(placed), source.randint(0, 2)))
    most_teeth = source.choice((6, 12, 24))
    rows = tuple(("ring" if index in rings else "line", source.randint(1, most_teeth), tuple(on_row))
                 for index, on_row in enumerate(placed))
    zips = tuple((source.choice(DIRECTIONS), source.choice((0, 0, 1, most_minimum))) for number in range(count))
    return Cloth(rows, zips)


def large_cases(seed, count, states=2):
    """Large cloths, each with some of its states."""
    source = random.Random(seed)
    found = 0
    while found < count:
        cloth = large_cloth(source)
        drawn = [random_state(cloth, source) for state in range(states)]
        if None not in drawn:
            found += 1
            yield (cloth, *drawn)


def crowded_case(source, sizes=(0, 1, 1, 2), bound=False):
    """A cloth and a state of it with gaps of these sizes. If zips are to be bound, most of them are tight."""
    counts = [source.choice((0, 0, 1, 2 if bound else 1)) for number in range(source.randint(2, 6))]
    feet = [(number, side) for number in range(len(counts)) for side in (0, 1)]
    source.shuffle(feet)
    placed = [[] for row in range(source.randint(1, 4))]
    for foot in feet:
        source.choice(placed).append(foot)
    rows, lows = [], {}
    for index, on_row in enumerate(placed):
        sort = source.choice(SORTS) if index < 2 else "line"
        gaps = [source.choice(sizes) for gap in range(len(on_row) + (sort == "line"))] or [0]
        teeth = sum(gaps) + sum(counts[number] for number, side in on_row)
        if teeth == 0:
            teeth = gaps[-1] = 1
        at = 0 if sort == "line" else source.randrange(teeth)
        for foot, gap in zip(on_row, gaps):
            at += gap if sort == "line" else 0
            lows[foot] = at
            at += counts[foot[0]] + (gap if sort == "ring" else 0)
        rows.append((sort, teeth, tuple(on_row)))
    if max(teeth for sort, teeth, on_row in rows) > 24:
        return crowded_case(source, sizes, bound)
    minima = [source.choice((0, count, count)) if bound else 0 for count in counts]
    cloth = Cloth(tuple(rows), tuple((source.choice(DIRECTIONS), minimum) for minimum in minima))
    return cloth, tuple((lows[(number, 0)], lows[(number, 1)], count) for number, count in enumerate(counts))
