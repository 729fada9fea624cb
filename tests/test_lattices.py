import itertools
import unittest

from zipslack.lattices import gathered, product, refuting, restricted

UNITS = [(1, 0), (0, 1)]


def reached(point, steps, span):
    """The points that some multiples of the steps lead to."""
    found = []
    for times in itertools.product(span, repeat=len(steps)):
        found.append(tuple(sum(parts) for parts in zip(point, *[[many * part for part in step]
                                                                for many, step in zip(times, steps)])))
    return found


class LatticesTest(unittest.TestCase):
    def test_product(self):
        self.assertEqual(product((2, -3, 0), (5, 1, 9)), 7)
        self.assertEqual(product((), ()), 0)

    def test_gathered(self):
        for coefficients in itertools.product(range(-4, 5), repeat=2):
            first, second = gathered(*UNITS, coefficients)
            self.assertEqual(product(coefficients, second), 0)
            self.assertIn(first[0] * second[1] - first[1] * second[0], (1, -1))

    def test_one_equation(self):
        for coefficients in itertools.product(range(-4, 5), repeat=2):
            for value in range(-5, 6):
                found = restricted((0, 0), UNITS, coefficients, value)
                near = [point for point in itertools.product(range(-5, 6), repeat=2)
                        if product(coefficients, point) == value]
                self.assertEqual(found is not None, near != [], (coefficients, value))
                if found is not None:
                    points = reached(*found, range(-40, 41))
                    self.assertEqual(set(near) - set(points), set(), (coefficients, value))
                    self.assertEqual(len(points), len(set(points)))
                    self.assertEqual({product(coefficients, point) for point in points}, {value})

    def test_one_equation_after_the_other(self):
        point, steps = restricted((0, 0), UNITS, (-4, 6), 2)
        self.assertEqual(restricted(point, steps, (4, 6), 10), ((1, 1), []))
        self.assertIsNone(restricted(point, steps, (4, 6), 4))
        self.assertEqual(restricted(point, steps, (0, 0), 0), (point, steps))
        self.assertIsNone(restricted(point, steps, (0, 0), 1))

    def test_without_steps(self):
        self.assertEqual(restricted((0,), [], (0,), 0), ((0,), []))
        self.assertIsNone(restricted((0,), [], (3,), 3))
        self.assertEqual(restricted((1,), [], (3,), 3), ((1,), []))

    def test_refuting(self):
        refuted = 0
        for rows in itertools.product(itertools.product((-4, 0, 3, 6), (0, 4), (-3, 0, 2)), repeat=2):
            equations = [((first, second), value) for first, second, value in rows] + [((6, 9), 3)]
            found = ((0, 0), UNITS)
            for coefficients, value in equations:
                found = None if found is None else restricted(*found, coefficients, value)
            fractions = refuting(equations, (0, 0), UNITS)
            self.assertEqual(fractions is None, found is not None, equations)
            if fractions is not None:
                refuted += 1
                numerators, denominator = fractions
                self.assertGreaterEqual(denominator, 1)
                for at in (0, 1):
                    sums = product(numerators, [coefficients[at] for coefficients, value in equations])
                    self.assertEqual(sums % denominator, 0, equations)
                self.assertNotEqual(product(numerators, [value for coefficients, value in equations]) % denominator, 0)
        self.assertGreater(refuted, 100)

    def test_the_steps_stay(self):
        steps = [(1, 0), (0, 1)]
        restricted((0, 0), steps, (2, 3), 1)
        refuting([((2, 4), 1)], (0, 0), steps)
        self.assertEqual(steps, UNITS)


if __name__ == "__main__":
    unittest.main()
