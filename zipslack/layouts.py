"""Tables of a cloth: which gaps are beside each foot and each slider, and which feet are neighbours.

The gaps of all rows are numbered one after the other. A row with k feet has k + 1 numbers: the gap before each foot,
and then the one after the last foot. On a ring with feet the first of these numbers stands for no gap, because the gap
before the first foot is the one after the last.
"""


def gaps_of_feet(rows):
    """For each foot the numbers of the gaps below and above it."""
    found = {}
    start = 0
    for sort, teeth, feet in rows:
        for at, foot in enumerate(feet):
            below = len(feet) if sort == "ring" and at == 0 else at
            found[foot] = (start + below, start + at + 1)
        start += len(feet) + 1
    return found


def neighbours_of_feet(rows):
    """For each foot the feet below and above it, None at the end of a line."""
    found = {}
    for sort, teeth, feet in rows:
        around = feet[-1:] + feet + feet[:1] if sort == "ring" else (None,) + feet + (None,)
        for at, foot in enumerate(feet):
            found[foot] = (around[at], around[at + 2])
    return found


def by_number(found, count):
    """What was found for each foot, as one pair for each zip."""
    return tuple([(found[(number, 0)], found[(number, 1)]) for number in range(count)])


def gaps_of_sliders(zips, gaps_by_foot):
    """For each zip and each of its ends, the numbers of the gaps beside this slider at side 0 and at side 1."""
    found = []
    for (direction, minimum), ((below0, above0), (below1, above1)) in zip(zips, gaps_by_foot):
        if direction == "reversed":
            found.append(((below0, above1), (above0, below1)))
        else:
            found.append(((below0, below1), (above0, above1)))
    return tuple(found)


def turn_lengths(rows):
    """How far one turn shifts the positions of each row: not at all where the winding must be 0."""
    return tuple([teeth if sort == "ring" and feet else 0 for sort, teeth, feet in rows])
