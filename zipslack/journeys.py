"""Journeys: how far each zip goes from a start state to a goal state, and how many moves this takes it alone.

A journey is a tuple `(before, after, x, y, row0, row1, turn0, turn1)`: the numbers of pairs in the start and in the
goal state, how far side 0 and side 1 go if no ring turns, the rows of the two sides, and what one turn of these rows
adds to how far they go. Side 1 is measured in the direction of side 0, so that a zip that keeps its offset has x equal
to y.
"""


def find_journeys(cloth, start, goal):
    """The journey of each zip."""
    return [find_journey(cloth, number, start[number], goal[number]) for number in range(len(cloth))]


def find_journey(cloth, number, start_entry, goal_entry):
    start0, start1, before = start_entry
    goal0, goal1, after = goal_entry
    row0 = cloth.row_by_foot[(number, 0)]
    row1 = cloth.row_by_foot[(number, 1)]
    facing = cloth.facings[number]
    # End 0 of a reversed zip is at the high position of side 1.
    y = goal1 - start1 if facing == 1 else start1 + before - goal1 - after
    return (before, after, goal0 - start0, y, row0, row1, cloth.turns[row0], facing * cloth.turns[row1])


def turned(journey, winding):
    """How far side 0 and side 1 go with a winding."""
    before, after, x, y, row0, row1, turn0, turn1 = journey
    return x + winding[row0] * turn0, y + winding[row1] * turn1


def journey_cost(journey, winding):
    before, after = journey[:2]
    x, y = turned(journey, winding)
    apart = x - y
    if apart == 0:
        return abs(x) + abs(x + after - before)
    # The distance between the intervals from x - before to x + after and from 0 to apart.
    between = max(0, min(0, apart) - x - after, x - before - max(0, apart))
    return before + after + abs(apart) + 2 * between


def journey_bound(journey, winding):
    """What a journey adds to the lower bound of a winding."""
    before, after, x, y, row0, row1, turn0, turn1 = journey
    if turn0 == 0 or turn1 == 0 or row0 == row1:
        return journey_cost(journey, winding)
    return max(0, turning_bound(winding[row0], turn0), turning_bound(winding[row1], abs(turn1)))


def turning_bound(times, teeth):
    """A foot goes at least this far if its ring turns so many times. This may be less than nothing."""
    return (abs(times) - 2) * teeth + 1


def most_turns(share, teeth):
    """How often a ring may turn so that its turning bound is at most the share."""
    return 2 + (share - 1) // teeth


def total_cost(journeys, winding):
    return sum([journey_cost(journey, winding) for journey in journeys])


def total_bound(journeys, winding):
    return sum([journey_bound(journey, winding) for journey in journeys])
