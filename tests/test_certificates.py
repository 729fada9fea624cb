import itertools
import unittest

from tests.samples import A, B, C, ODD_VALUES, P, Q, R, S, T, U
from tests.test_clamps import FULL, FULL_STATE, HELD, HELD_STATE
from tests.test_costs import FAR, FAR_GOAL, FAR_START, NO_ZIPS, sweep
from tests.test_windings import BOTH
from tests.travels import direct_table, is_certificate, leads_to
from tests.worlds import large_cases, one_row, states_of, two_rows
from zipslack import certificates
from zipslack.certificates import certificate
from zipslack.checker import check
from zipslack.clamps import clamped_feet, is_blocking_cycle
from zipslack.cloths import Cloth
from zipslack.costs import distance
from zipslack.errors import InvalidState
from zipslack.windings import find_winding

# Pairs of states between which there is no path, for various reasons.
HELD_GOAL = ((0, 2, 1), (2, 1, 1), (2, 2, 0))
UNREACHABLE = (
    (B, P, R),
    (C, T, ((1, 0, 2),)),
    (C, T, ((0, 1, 2),)),
    (C, T, ((1, 1, 2),)),
    (FULL, FULL_STATE, ((1, 1, 2), (3, 3, 0))),
    (HELD, HELD_STATE, HELD_GOAL),
    (BOTH, ((0, 0, 1), (2, 3, 1)), ((1, 2, 1), (3, 7, 1))),
    (BOTH, ((2, 5, 2), (4, 7, 2)), ((0, 1, 2), (2, 5, 2))),
    (two_rows("line", 6, "line", 6, "parallel", 1), ((1, 3, 1),), ((2, 5, 1),)),
    (two_rows("ring", 4, "ring", 6, "reversed", 1), ((0, 0, 1),), ((0, 1, 1),)),
    (one_row("ring", 5, "parallel", 1), ((0, 2, 1),), ((4, 7, 1),)),
)


class CertificatesCase(unittest.TestCase):
    def assert_certificate(self, cloth, start, goal):
        """The certificate is one by the words of the document, and of the right kind."""
        found = certificate(cloth, start, goal)
        count, windings = distance(cloth, start, goal)
        self.assertEqual(found[0], "unreachable" if count is None else "path")
        if count is None or count <= 30:
            self.assertTrue(is_certificate(cloth, start, goal, found), (str(cloth), start, goal, found))
        if count is not None:
            self.assertEqual(len(found[1]), count)
            self.assertTrue(leads_to(cloth, start, goal, found[1]))
            self.assertEqual([winding for winding, total in found[2] if total == count], windings)
            self.assertGreaterEqual(min(total for winding, total in found[2]), count)
        self.assertIs(check(cloth, start, goal, found), True)
        return found


class ExamplesTest(unittest.TestCase):
    def test_the_examples(self):
        self.assertEqual(certificate(A, S, S), ("path", [], [((0, 0), 0)]))

    def test_arguments_by_name(self):
        self.assertEqual(certificate(goal=S, start=S, cloth=A), ("path", [], [((0, 0), 0)]))

    def test_the_function_is_defined_in_its_file(self):
        self.assertIs(certificates.certificate, certificate)
        self.assertEqual(certificate.__module__, "zipslack.certificates")


class PathTest(CertificatesCase):
    def test_one_winding(self):
        self.assertEqual(self.assert_certificate(B, P, Q)[2], [((1, 0), 6)])
        self.assertEqual(self.assert_certificate(NO_ZIPS, (), ()), ("path", [], [((0, 0), 0)]))
        self.assertEqual(self.assert_certificate(C, T, T), ("path", [], [((0, 0), 0)]))

    def test_other_windings_of_a_low_bound(self):
        cloth = two_rows("ring", 3, "ring", 4)
        found = self.assert_certificate(cloth, ((1, 2, 2),), ((1, 2, 2),))
        # With at most one turn of each ring, the lower bound is 0.
        self.assertEqual([winding for winding, total in found[2]], list(itertools.product((-1, 0, 1), repeat=2)))
        self.assertEqual([total for winding, total in found[2]], [7, 7, 11, 8, 0, 8, 11, 7, 7])

    def test_the_table_is_complete_and_sorted(self):
        longest = 0
        for cloth, start, goal in sweep(12):
            found = self.assert_certificate(cloth, start, goal)
            if found[0] == "path":
                self.assertEqual(found[2], direct_table(cloth, start, goal, len(found[1])))
                self.assertEqual(found[2], sorted(found[2]))
                longest = max(longest, len(found[2]))
        self.assertGreater(longest, 20)

    def test_2000_moves(self):
        found = self.assert_certificate(FAR, FAR_START, FAR_GOAL)
        self.assertIn(((10, 10), 2000), found[2])
        self.assertGreater(len(found[2]), 1)


class UnreachableTest(CertificatesCase):
    def test_known_cases(self):
        for cloth, start, goal in UNREACHABLE:
            with self.subTest(str(cloth), start=start, goal=goal):
                self.assertEqual(self.assert_certificate(cloth, start, goal)[0], "unreachable")

    def test_several_constraints_together(self):
        cloth, start, goal = UNREACHABLE[7]
        parts = self.assert_certificate(cloth, start, goal)[1]
        self.assertEqual(sorted(name for name, numerator, denominator in parts), [("offset", 0), ("offset", 1)])

    def test_a_cycle_for_each_foot(self):
        feet = 0
        for cloth, start, goal in itertools.chain(sweep(40), large_cases(31, 600)):
            if find_winding(cloth, start, goal) is None:
                parts, cycles = self.assert_certificate(cloth, start, goal)[1:]
                named = [name[1:] for name, numerator, denominator in parts if name[0] == "foot"]
                self.assertEqual(len(named), len(cycles))
                for foot, cycle in zip(named, cycles):
                    self.assertIn(foot, clamped_feet(cloth, start))
                    self.assertIs(is_blocking_cycle(cloth, start, cycle), True)
                feet += len(named)
        self.assertGreater(feet, 100)


class BothKindsTest(CertificatesCase):
    def test_exactly_one_kind(self):
        kinds = {"path": 0, "unreachable": 0}
        for cloth, start, goal in itertools.chain(sweep(30), large_cases(32, 300)):
            if (distance(cloth, start, goal)[0] or 0) <= 2000:
                kinds[self.assert_certificate(cloth, start, goal)[0]] += 1
        self.assertGreater(min(kinds.values()), 200)

    def test_all_goals_from_one_state(self):
        cloth = two_rows("ring", 4, "ring", 2, "parallel", 1)
        kinds = {}
        for goal in states_of(cloth):
            kinds[goal] = self.assert_certificate(cloth, ((0, 0, 1),), goal)[0]
        self.assertEqual(sorted(set(kinds.values())), ["path", "unreachable"])

    def test_the_form(self):
        for cloth, start, goal in itertools.chain(sweep(4), UNREACHABLE):
            found = certificate(cloth, start, goal)
            self.assertEqual([type(part) for part in found], [tuple, str, list, list][1:])
            self.assertIs(type(found), tuple)
            self.assertEqual({type(part) for part in found[1]} - {tuple}, set())
            inner = {type(part) for part in found[2]}
            self.assertEqual(inner - {tuple if found[0] == "path" else list}, set())
            self.assertEqual(found, certificate(cloth, start, goal))

    def test_a_returned_certificate_belongs_to_the_caller(self):
        for cloth, start, goal in UNREACHABLE + ((B, P, Q), (A, S, S)):
            expected = repr(certificate(cloth, start, goal))
            found = certificate(cloth, start, goal)
            for part in found[2]:
                if isinstance(part, list):
                    part.clear()
            found[1].clear()
            found[2].append("x")
            self.assertEqual(repr(certificate(cloth, start, goal)), expected)


class InvalidStateTest(unittest.TestCase):
    def test_values_that_are_no_state(self):
        for value in ODD_VALUES + (list(P), ((0, 0, 0),), ((0, False, 1),), ((3, 0, 1),), P + P, P[0], U):
            with self.subTest(value):
                for start, goal in ((value, P), (P, value), (value, value), (value, R)):
                    with self.assertRaises(InvalidState):
                        certificate(B, start, goal)

    def test_states_of_another_cloth(self):
        with self.assertRaises(InvalidState):
            certificate(Cloth((("line", 4, ()),)), (), S)


if __name__ == "__main__":
    unittest.main()
