"""Integer solutions of linear equations, and fractions that show that there are none.

All solutions are described by one of them, the point, and by steps: adding multiples of the steps to the point gives
every solution, each of them once.
"""


def product(coefficients, vector):
    return sum([coefficient * part for coefficient, part in zip(coefficients, vector)])


def shifted(vector, step, times):
    return tuple([part + times * length for part, length in zip(vector, step)])


def gathered(first, second, coefficients):
    """Two steps that reach the same vectors as these two, the second without effect on the product."""
    while product(coefficients, second) != 0:
        times = product(coefficients, first) // product(coefficients, second)
        first, second = second, shifted(first, second, -times)
    return first, second


def all_gathered(steps, coefficients):
    """Steps that reach the same vectors as these, such that only the first one has an effect on the product."""
    lead = steps[0]
    kept = []
    for step in steps[1:]:
        lead, idle = gathered(lead, step, coefficients)
        kept.append(idle)
    return lead, kept


def is_idle(steps, coefficients):
    """Whether no step has an effect on the product."""
    return all([product(coefficients, step) == 0 for step in steps])


def restricted(point, steps, coefficients, value):
    """The point and the steps of those solutions whose product is the value, or None if there are none."""
    missing = value - product(coefficients, point)
    if is_idle(steps, coefficients):
        return (point, steps) if missing == 0 else None
    lead, kept = all_gathered(steps, coefficients)
    size = product(coefficients, lead)
    if missing % size != 0:
        return None
    return shifted(point, lead, missing // size), kept


def refuting(equations, point, steps):
    """Numerators and a denominator: fractions which show that equations have no solution among these vectors.

    An equation is a tuple of coefficients and a value. The equations, each multiplied by its numerator and divided by
    the denominator, add up to integer coefficients and to a value that is not an integer. None if there is a solution.
    """
    used = []
    for index, (coefficients, value) in enumerate(equations):
        numerators, denominator = remainder(len(equations), index, coefficients, used)
        missing = value - product(coefficients, point)
        if is_idle(steps, coefficients):
            if missing != 0:
                # The coefficients of the remainder are 0, and half of its value's sign is not an integer.
                return numerators, denominator * 2 * abs(missing)
            continue
        lead, steps = all_gathered(steps, coefficients)
        size = product(coefficients, lead)
        if missing % size != 0:
            return numerators, denominator * abs(size)
        point = shifted(point, lead, missing // size)
        used.append((lead, [part if size > 0 else -part for part in numerators], denominator * abs(size)))
    return None


def remainder(count, index, coefficients, used):
    """What is left of an equation when the equations that were used are subtracted so that none of their leads count.

    A used entry has its lead, and numerators and a denominator whose sum of equations is 1 for this lead, and 0 for
    every other lead and step.
    """
    common = 1
    for lead, numerators, denominator in used:
        common *= denominator
    left = [common if at == index else 0 for at in range(count)]
    for lead, numerators, denominator in used:
        times = product(coefficients, lead) * (common // denominator)
        left = [part - times * numerator for part, numerator in zip(left, numerators)]
    return left, common
