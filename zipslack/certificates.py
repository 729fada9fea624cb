"""Certificates: data which shows that a path is a shortest one, or that there is no path."""

from zipslack.clamps import blocking_cycle
from zipslack.costs import least_windings, winding_table
from zipslack.journeys import find_journeys
from zipslack.lattices import refuting
from zipslack.paths import find_path
from zipslack.windings import admissible_windings, constraints, every_winding


def certificate(cloth, start, goal):
    """A certificate for the two states."""
    required = constraints(cloth, start, goal)
    found = admissible_windings(cloth, required)
    if found is None:
        return unreachable_certificate(cloth, start, required)
    journeys = find_journeys(cloth, start, goal)
    count, windings = least_windings(journeys, found)
    return ("path", find_path(cloth, start, goal, windings[0]), winding_table(journeys, found, count))


def unreachable_certificate(cloth, start, required):
    """A certificate that no winding meets the constraints."""
    equations = [(coefficients, value) for name, coefficients, value in required]
    point, steps = every_winding(cloth)
    numerators, denominator = refuting(equations, point, steps)
    names = [name for name, coefficients, value in required]
    used = [(name, numerator) for name, numerator in zip(names, numerators) if numerator != 0]
    parts = [(name, numerator, denominator) for name, numerator in used]
    feet = [(name[1], name[2]) for name, numerator in used if name[0] == "foot"]
    return ("unreachable", parts, [blocking_cycle(cloth, start, foot) for foot in feet])
