"""Costs: how many moves lead from a start state to a goal state, for each winding and at the least."""

from zipslack.journeys import find_journeys, journey_cost, most_turns, total_bound, total_cost
from zipslack.lattices import shifted
from zipslack.states import require_state
from zipslack.windings import admissible_windings, constraints


def zip_costs(cloth, start, goal, winding):
    """The cost of each zip for a winding."""
    require_states(cloth, start, goal)
    return tuple([journey_cost(journey, winding) for journey in find_journeys(cloth, start, goal)])


def lower_bound(cloth, start, goal, winding):
    """A number that the total cost of a winding is not less than."""
    require_states(cloth, start, goal)
    return total_bound(find_journeys(cloth, start, goal), winding)


def distance(cloth, start, goal):
    """The least number of moves, and all windings with this total cost."""
    found = admissible_windings(cloth, constraints(cloth, start, goal))
    if found is None:
        return (None, [])
    return least_windings(find_journeys(cloth, start, goal), found)


def require_states(cloth, start, goal):
    require_state(cloth, start)
    require_state(cloth, goal)


def least_windings(journeys, found):
    """The least total cost of the windings that were found, and all windings with this total cost."""
    limit = min([total_cost(journeys, winding) for winding in small_windings(found)])
    table = winding_table(journeys, found, limit)
    least = min([total for winding, total in table])
    return least, [winding for winding, total in table if total == least]


def winding_table(journeys, found, limit):
    """All windings whose lower bound is at most the limit, with their total costs, sorted."""
    near = [winding for winding in near_windings(journeys, found, limit) if total_bound(journeys, winding) <= limit]
    return [(winding, total_cost(journeys, winding)) for winding in sorted(near)]


def small_windings(found):
    """Some windings that turn little, as a beginning: one of them mostly has a total near the least one."""
    point, steps = found
    windings = [point]
    for step in steps:
        at = turning_row(step)
        windings = [shifted(winding, step, times - winding[at] // step[at])
                    for winding in windings for times in (-1, 0, 1)]
    return windings


def near_windings(journeys, found, limit):
    """Windings among which are all those whose lower bound is at most the limit."""
    point, steps = found
    windings = [point]
    for at, step in enumerate(steps):
        # Steps that are still to come turn other rows, or the only step turns all rows that turn.
        changing = [row for later in steps[at:] for row, times in enumerate(later) if times != 0]
        windings = [shifted(winding, step, times) for winding in windings
                    for times in near_times(journeys, winding, step, changing, limit)]
    return windings


def near_times(journeys, winding, step, changing, limit):
    """How many times a step may be taken, such that the lower bound can be at most the limit."""
    row = turning_row(step)
    settled = [journey for journey in journeys if journey[4] not in changing and journey[5] not in changing]
    left = limit - total_bound(settled, winding)
    if left < 0:
        return []
    turning = [journey for journey in journeys if row in (journey[4], journey[5])]
    most = most_turns(left // len(turning), row_teeth(turning[0], row))
    # The row may turn from -most to most times.
    size = abs(step[row])
    back, forth = (most + winding[row]) // size, (most - winding[row]) // size
    return list(range(-back, forth + 1)) if step[row] > 0 else list(range(-forth, back + 1))


def turning_row(step):
    return [times != 0 for times in step].index(True)


def row_teeth(journey, row):
    """The teeth of a ring with a foot of this journey's zip."""
    return journey[6] if journey[4] == row else abs(journey[7])

