"""Holes: the runs of free teeth that sliders connect, and the slack inside them."""

from zipslack.errors import UnknownZip
from zipslack.kinds import is_integer_between
from zipslack.places import DOWN, UP, WAYS
from zipslack.states import require_state


def holes(cloth, state):
    """All holes as tuples of kind and runs, sorted."""
    require_state(cloth, state)
    return find_holes(cloth, state)


def slack(cloth, state):
    """The slack of each hole, in the order of the holes."""
    require_state(cloth, state)
    return [hole_slack(kind, runs) for kind, runs in find_holes(cloth, state)]


def opening_effect(cloth, state, number):
    """What happens to the holes when the only pair of a zip is opened."""
    require_state(cloth, state)
    if not is_integer_between(number, 0, len(cloth) - 1) or state[number][2] != 1:
        raise UnknownZip(number)
    before = find_holes(cloth, state)
    after = find_holes(cloth, opened(state, number))
    beside = runs_beside(cloth, state)
    # The two runs at side 0 are in the holes of the two sliders.
    first, second = sorted([hole_index(before, beside[((number, 0), way)]) for way in WAYS])
    if first == second:
        return ("split", first) if len(after) > len(before) else ("reverse", first)
    return ("merge", first, second) if len(after) < len(before) else ("cross", first, second)


def opened(state, number):
    """The placement in which a zip has no pairs, whatever its minimum."""
    low0, low1, count = state[number]
    return state[:number] + ((low0, low1, 0),) + state[number + 1:]


def hole_index(found, run):
    return [run in runs for kind, runs in found].index(True)


def hole_slack(kind, runs):
    sizes = [teeth for row, position, teeth in runs]
    # Around an odd ring no run is more first than second, so only the parity is kept.
    if kind == "ring" and len(sizes) % 2 == 1:
        return ("parity", sum(sizes) % 2)
    return ("imbalance", abs(sum(sizes[::2]) - sum(sizes[1::2])))


def find_holes(cloth, placement):
    """The holes of a placement, which is a state except that minima do not matter."""
    links = run_links(cloth, placement)
    runs = [run for index, row in enumerate(cloth.rows()) for run in row_runs(index, row, placement)]
    stops = [(run, way) for run in runs for way in WAYS if (run, way) not in links]
    paths = [follow(links, run, -way) for run, way in stops]
    on_paths = {run: True for path in paths for run in path}
    rings = [follow(links, run, UP) for run in runs if run not in on_paths]
    # A path was followed from both of its ends, and a ring from each of its runs.
    return sorted(set([("path", least_path(path)) for path in paths] + [("ring", least_ring(ring)) for ring in rings]))


def least_path(runs):
    return tuple(min(runs, runs[::-1]))


def least_ring(runs):
    # All runs differ, so the least tuple begins with the least run.
    at = runs.index(min(runs))
    upwards = runs[at:] + runs[:at]
    return tuple(min(upwards, upwards[:1] + upwards[:0:-1]))


def follow(links, run, way):
    """The connected runs from this one on, which is left at its end `way`, to the end of a line or once around."""
    found = [run]
    reached = links.get((run, way))
    while reached is not None and reached[0] != run:
        found.append(reached[0])
        reached = links.get((reached[0], -reached[1]))
    return found


def run_links(cloth, placement):
    """For each end of a run the end of a run that it is connected with. An end of a line is not in it."""
    beside = runs_beside(cloth, placement)
    links = {}
    for (number, side), way in beside:
        other_way = way * cloth.facings[number]
        # The run above a foot begins there: it has its low end at the foot.
        here = (beside[((number, side), way)], -way)
        links[here] = (beside[((number, 1 - side), other_way)], -other_way)
    for index, row in enumerate(cloth.rows()):
        if row[0] == "ring" and not joined_feet(row, placement):
            run = (index, 0, row[1])
            links[(run, UP)] = (run, DOWN)
            links[(run, DOWN)] = (run, UP)
    return links


def runs_beside(cloth, placement):
    """The runs below and above each joined foot, by the foot and the way to the run."""
    beside = {}
    for index, row in enumerate(cloth.rows()):
        runs = row_runs(index, row, placement)
        if row[0] == "ring":
            # The last run of a ring is also below its first joined foot.
            runs = runs[-1:] + runs
        for at, foot in enumerate(joined_feet(row, placement)):
            beside[(foot, DOWN)] = runs[at]
            beside[(foot, UP)] = runs[at + 1]
    return beside


def joined_feet(row, placement):
    return tuple([(number, side) for number, side in row[2] if placement[number][2] > 0])


def row_runs(index, row, placement):
    """The runs of a row, each from a start to an end, as if the row had only its joined feet."""
    sort, teeth, feet = row
    joined = joined_feet(row, placement)
    lows = [placement[number][side] for number, side in joined]
    highs = [placement[number][side] + placement[number][2] for number, side in joined]
    if sort == "ring" and joined:
        spans = list(zip(highs, lows[1:] + [lows[0] + teeth]))
        return [(index, start % teeth, end - start) for start, end in spans]
    return [(index, start, end - start) for start, end in zip([0] + highs, lows + [teeth])]
