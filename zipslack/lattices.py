"""Integer solutions of linear equations.

All solutions are described by one of them, the point, and by steps: adding multiples of the steps to the point gives
every solution, each of them once.
"""


def product(coefficients, vector):
    return sum([coefficient * part for coefficient, part in zip(coefficients, vector)])


def shifted(vector, step, times):
    return tuple([part + times * length for part, length in zip(vector, step)])


def gathered(first, second, coefficients):
    """Two steps that reach the same vectors as these two, the second without effect on the product."""
    while product(coefficients, second) != 0:
        times = product(coefficients, first) // product(coefficients, second)
        first, second = second, shifted(first, second, -times)
    return first, second


def restricted(point, steps, coefficients, value):
    """The point and the steps of those solutions whose product is the value, or None if there are none."""
    missing = value - product(coefficients, point)
    if all([product(coefficients, step) == 0 for step in steps]):
        return (point, steps) if missing == 0 else None
    lead = steps[0]
    kept = []
    for step in steps[1:]:
        lead, idle = gathered(lead, step, coefficients)
        kept.append(idle)
    size = product(coefficients, lead)
    if missing % size != 0:
        return None
    return shifted(point, lead, missing // size), kept
