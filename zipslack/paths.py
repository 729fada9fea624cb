"""Paths: shortest sequences of moves from a start state to a goal state.

A path has three phases. First each zip is opened until it has only pairs that it can keep. Then whatever is not where
the goal needs it moves there: a zip with kept pairs crawls, the feet of an open zip slip. At last all other pairs are
closed.
"""

from zipslack.costs import distance
from zipslack.errors import LimitExceeded
from zipslack.journeys import find_journeys, turned
from zipslack.moves import CLOSE, OPEN, SLIP, can_move, perform
from zipslack.states import require_gaps

MOST_MOVES = 2000


def shortest_path(cloth, start, goal):
    """A shortest list of moves that leads from the start to the goal, or None if there is none."""
    count, windings = distance(cloth, start, goal)
    if count is None:
        return None
    if count > MOST_MOVES:
        raise LimitExceeded(MOST_MOVES)
    return find_path(cloth, start, goal, windings[0])


def find_path(cloth, start, goal, winding):
    """The moves of a path with this winding, which is admissible."""
    opens, trips, closes = [], [], []
    for number, journey in enumerate(find_journeys(cloth, start, goal)):
        x, y = turned(journey, winding)
        early, kept, late = kept_pairs(journey[0], journey[1], x, y, cloth.minimums[number])
        opens.extend(slides(OPEN, number, early, journey[0] - early - kept))
        trips.extend(find_trips(cloth, number, kept, x + late - early, y + late - early))
        closes.extend(slides(CLOSE, number, late, journey[1] - late - kept))
    return opens + travel(cloth, start, opens, trips) + closes


def slides(name, number, times0, times1):
    """Some moves of both sliders of a zip."""
    return [(name, number, 0)] * times0 + [(name, number, 1)] * times1


def kept_pairs(before, after, x, y, minimum):
    """The pairs that a zip keeps: how many of the start's are below them, their number, how many of the goal's are."""
    low = max(0, x)
    common = min(before, x + after) - low
    if x == y and common >= minimum:
        return low, common, low - x
    if minimum > 0:
        return (before - minimum, minimum, 0) if x > 0 else (0, minimum, after - minimum)
    # Feet slip least if the place where the zip is opened moves by something between x and y, or nearly so.
    shift = min(max(min(x, y), -after), before)
    return max(shift, 0), 0, max(-shift, 0)


def find_trips(cloth, number, kept, far0, far1):
    """How the two sides of a zip go so far: each trip is a list of moves, and how often they are repeated."""
    if kept == 0:
        slips = [(0, far0), (1, far1 * cloth.facings[number])]
        return [([(SLIP, number, side, 1 if far > 0 else -1)], abs(far)) for side, far in slips if far != 0]
    if far0 == 0:
        return []
    ahead = 1 if far0 > 0 else 0
    return [([(CLOSE, number, ahead), (OPEN, number, 1 - ahead)], abs(far0))]


def travel(cloth, start, opens, trips):
    """The moves that make all trips, after the opening moves."""
    gaps = require_gaps(cloth, start)
    entries = list(start)
    for move in opens:
        perform(cloth, entries, gaps, move)
    found = []
    while trips:
        made = len(found)
        waiting = []
        for moves, times in trips:
            left = times
            while left > 0 and can_move(cloth, entries, gaps, moves[0]):
                for move in moves:
                    perform(cloth, entries, gaps, move)
                found.extend(moves)
                left -= 1
            if left > 0:
                waiting.append((moves, left))
        trips = waiting
        # Whoever waits, waits for another one that goes the same way. In a cycle all would be clamped.
        assert len(found) > made
    return found
