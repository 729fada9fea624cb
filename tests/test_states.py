import itertools
import unittest

from tests.samples import A, B, C, D, ODD_VALUES, P, Q, R, S, T, U
from tests.worlds import states_of, two_rows
from zipslack import states
from zipslack.cloths import Cloth
from zipslack.errors import InvalidState
from zipslack.states import gaps, is_state, pairs

EMPTY = Cloth((("line", 4, ()), ("ring", 3, ())))
# Two feet on a ring, each joined to a line of its own.
TWO = Cloth(
    (("ring", 4, ((0, 0), (1, 1))), ("line", 5, ((0, 1),)), ("line", 5, ((1, 0),))),
    (("parallel", 0), ("reversed", 0)),
)
# One line and one ring with both feet of a zip, the second foot of zip 0 first.
SELF_LINE = Cloth((("line", 5, ((0, 1), (0, 0))),), (("reversed", 0),))
SELF_RING = Cloth((("ring", 5, ((0, 0), (0, 1))),), (("parallel", 0),))
# On the first line, zip 1 comes before zip 0.
CROSSED = Cloth(
    (("line", 6, ((1, 0), (0, 1))), ("line", 6, ((0, 0), (1, 1)))),
    (("parallel", 0), ("reversed", 0)),
)


def all_states(cloth):
    """Every state, found by trying all positions and counts and some beyond all bounds."""
    span = range(-1, 2 * max(row[1] for row in cloth.rows()) + 1)
    entries = list(itertools.product(span, repeat=3))
    return [value for value in itertools.product(entries, repeat=len(cloth)) if is_state(cloth, value)]


class ExamplesTest(unittest.TestCase):
    def test_the_examples(self):
        self.assertIs(is_state(A, S), True)
        self.assertIs(is_state(A, ((0, 1, 5),)), False)
        self.assertEqual(gaps(A, S), ((0, 2), (1, 2)))
        self.assertEqual(pairs(A, S), [((0, 0), (1, 1)), ((0, 1), (1, 2))])

    def test_the_states_of_the_definitions(self):
        for cloth, state in ((A, S), (B, P), (B, Q), (B, R), (C, T), (D, U)):
            self.assertIs(is_state(cloth, state), True)

    def test_arguments_by_name(self):
        self.assertIs(is_state(value=S, cloth=A), True)
        self.assertEqual(gaps(state=S, cloth=A), gaps(A, S))
        self.assertEqual(pairs(state=S, cloth=A), pairs(A, S))

    def test_functions_are_defined_in_their_file(self):
        for name in ("is_state", "gaps", "pairs"):
            self.assertEqual(getattr(states, name).__module__, "zipslack.states")


class AnyValueTest(unittest.TestCase):
    def test_values_of_another_form(self):
        forms = (
            list(S), (list(S[0]),), ([0, 1, 2],), [[0, 1, 2]], S[0], (), S + S, S + ((),), ((0, 1),),
            ((0, 1, 2, 0),), (((0, 1, 2),),), (("0", "1", "2"),), "012", ((0, 1, None),), ((0, 1, (2,)),),
            ((0, 1, [2]),), ((None, 1, 2),), ((0, "1", 2),),
        )
        for value in forms + ODD_VALUES:
            with self.subTest(value):
                self.assertIs(is_state(A, value), False)
                self.assertIs(is_state(D, value), False)

    def test_booleans_are_no_integers(self):
        self.assertIs(is_state(A, ((0, 1, 1),)), True)
        for value in (((False, 1, 1),), ((0, True, 1),), ((0, 1, True),), ((0, 0, False),)):
            with self.subTest(value):
                self.assertIs(is_state(A, value), False)

    def test_every_entry_is_looked_at(self):
        self.assertIs(is_state(D, ((0, 0, 0), (3, 2, 0))), True)
        for odd in (None, (), (3, 2), (3, 2, False), [3, 2, 0], (3, 2, 0, 0), (4, 2, 0), (3, 6, 0), (3, 2, -1)):
            with self.subTest(odd):
                self.assertIs(is_state(D, ((0, 0, 0), odd)), False)
        self.assertIs(is_state(D, ([0, 0, 0], (3, 2, 0))), False)

    def test_a_cloth_without_zips_has_one_state(self):
        self.assertIs(is_state(EMPTY, ()), True)
        for value in ODD_VALUES + (S, ((0, 0, 0),), [[]], {}):
            with self.subTest(value):
                self.assertIs(is_state(EMPTY, value), False)

    def test_large_integers(self):
        for value in ((10 ** 29, 0, 0), (0, -10 ** 29, 0), (0, 0, 10 ** 29), (-10 ** 29, -10 ** 29, 10 ** 29)):
            self.assertIs(is_state(A, (value,)), False)
            self.assertIs(is_state(B, (value,)), False)

    def test_values_are_not_changed(self):
        value = [[0, 1, 2], [[3]]]
        is_state(A, value)
        is_state(A, (value,))
        self.assertEqual(value, [[0, 1, 2], [[3]]])


class StateBoundsTest(unittest.TestCase):
    def assert_states(self, cloth, good, bad):
        for value in good:
            with self.subTest(value):
                self.assertIs(is_state(cloth, value), True)
        for value in bad:
            with self.subTest(value):
                self.assertIs(is_state(cloth, value), False)

    def test_both_ends_of_a_line(self):
        good = (((0, 0, 0),), ((4, 5, 0),), ((0, 0, 4),), ((0, 1, 4),), ((3, 4, 1),), ((2, 0, 2),))
        bad = (((-1, 0, 0),), ((0, -1, 0),), ((5, 0, 0),), ((0, 6, 0),), ((0, 0, 5),), ((0, 2, 4),), ((1, 0, 4),),
               ((4, 0, 1),), ((0, 5, 1),), ((-1, 0, 1),), ((0, -1, 1),))
        self.assert_states(A, good, bad)

    def test_negative_pairs(self):
        self.assert_states(A, (), (((1, 1, -1),), ((4, 5, -1),), ((0, 0, -1),), ((5, 5, -1),)))

    def test_the_minimum(self):
        for direction in ("parallel", "reversed"):
            cloth = two_rows("line", 6, "line", 6, direction, 2)
            self.assert_states(cloth, (((0, 0, 2),), ((0, 0, 3),)), (((0, 0, 1),), ((0, 0, 0),)))

    def test_each_zip_has_its_own_minimum(self):
        rows = (("line", 9, ((0, 0), (1, 0))), ("line", 9, ((0, 1), (1, 1))))
        cloth = Cloth(rows, (("parallel", 3), ("parallel", 1)))
        good = (((0, 0, 3), (3, 3, 1)),)
        bad = (((0, 0, 2), (3, 3, 1)), ((0, 0, 3), (3, 3, 0)), ((0, 0, 1), (3, 3, 3)))
        self.assert_states(cloth, good, bad)

    def test_a_minimum_that_no_state_meets(self):
        self.assertEqual(all_states(two_rows("line", 2, "line", 3, minimum=3)), [])
        self.assertEqual(all_states(two_rows("line", 3, "ring", 2, minimum=3)), [])
        self.assertEqual(len(all_states(two_rows("line", 3, "line", 3, minimum=3))), 1)

    def test_a_zip_of_24_pairs(self):
        cloth = two_rows("line", 24, "ring", 24, "reversed", 24)
        good = (((0, 0, 24),), ((0, 23, 24),))
        bad = (((0, 24, 24),), ((1, 0, 24),), ((0, 0, 23),), ((0, 0, 25),))
        self.assert_states(cloth, good, bad)

    def test_one_foot_on_a_ring(self):
        good = (((0, 0, 1),), ((2, 0, 1),), ((0, 0, 3),), ((2, 2, 3),), ((1, 4, 1),))
        bad = (((-1, 0, 1),), ((3, 0, 1),), ((0, 0, 4),), ((2, 0, 4),), ((4, 0, 1),), ((2, 3, 3),))
        self.assert_states(B, good, bad)

    def test_an_open_zip_alone_on_a_ring(self):
        cloth = two_rows("ring", 3, "ring", 1)
        good = (((0, 0, 0),), ((2, 0, 0),), ((2, 0, 1),))
        bad = (((3, 0, 0),), ((0, 1, 0),), ((-1, 0, 0),), ((0, -1, 0),), ((0, 0, 2),))
        self.assert_states(cloth, good, bad)

    def test_the_order_of_feet_on_a_line(self):
        good = (((0, 0, 0), (0, 0, 0)), ((0, 0, 2), (2, 0, 1)), ((3, 0, 0), (3, 0, 0)), ((1, 4, 1), (2, 5, 0)))
        bad = (((1, 0, 0), (0, 0, 0)), ((0, 0, 2), (1, 0, 1)), ((0, 0, 2), (2, 0, 2)), ((0, 0, 3), (3, 0, 1)),
               ((-1, 0, 0), (0, 0, 0)), ((0, 0, 0), (4, 0, 0)))
        self.assert_states(D, good, bad)

    def test_several_feet_on_a_ring(self):
        good = (
            ((0, 0, 0), (0, 0, 0)),
            ((0, 0, 0), (0, 4, 0)),
            ((3, 0, 0), (0, 7, 0)),
            ((2, 0, 2), (0, 4, 2)),
            ((3, 0, 1), (0, 4, 3)),
            ((3, 0, 4), (0, 7, 0)),
            ((0, 0, 0), (0, 0, 4)),
        )
        bad = (
            ((4, 0, 0), (0, 4, 0)),
            ((-1, 0, 0), (0, 0, 0)),
            ((0, 0, 0), (0, 5, 0)),
            ((3, 0, 0), (0, 8, 0)),
            ((2, 0, 2), (0, 5, 2)),
            ((2, 0, 2), (0, 3, 2)),
            ((2, 0, 2), (0, 0, 2)),
            ((3, 0, 1), (0, 4, 4)),
            ((3, 0, 0), (0, 2, 0)),
            ((0, 0, 0), (0, 0, 5)),
        )
        self.assert_states(TWO, good, bad)

    def test_both_feet_on_one_line(self):
        good = (((0, 0, 0),), ((2, 0, 2),), ((3, 1, 2),), ((5, 5, 0),))
        bad = (((0, 2, 2),), ((1, 0, 2),), ((4, 1, 2),), ((3, 0, 3),))
        self.assert_states(SELF_LINE, good, bad)

    def test_both_feet_on_one_ring(self):
        good = (((0, 0, 0),), ((0, 5, 0),), ((4, 6, 2),), ((4, 7, 2),), ((4, 9, 0),))
        bad = (((2, 0, 2),), ((0, 6, 0),), ((4, 5, 2),), ((4, 8, 2),), ((5, 7, 2),), ((0, 3, 3),))
        self.assert_states(SELF_RING, good, bad)

    def test_the_order_of_feet_counts_not_the_order_of_zips(self):
        good = (((0, 4, 2), (1, 2, 3)), ((0, 3, 2), (0, 2, 3)))
        bad = (((0, 0, 2), (3, 2, 3)), ((3, 4, 2), (1, 2, 3)))
        self.assert_states(CROSSED, good, bad)


class StateCountTest(unittest.TestCase):
    """The number of states follows from the bounds by counting, without trying positions."""

    def test_two_lines(self):
        for teeth0, teeth1, minimum in ((1, 1, 0), (2, 3, 0), (4, 3, 1), (3, 3, 2)):
            counts = range(minimum, min(teeth0, teeth1) + 1)
            expected = sum((teeth0 - count + 1) * (teeth1 - count + 1) for count in counts)
            for direction in ("parallel", "reversed"):
                cloth = two_rows("line", teeth0, "line", teeth1, direction, minimum)
                self.assertEqual(len(all_states(cloth)), expected)

    def test_a_ring_and_a_line(self):
        for teeth0, teeth1, minimum in ((1, 1, 0), (2, 3, 0), (4, 3, 1), (3, 3, 2)):
            counts = range(minimum, min(teeth0, teeth1) + 1)
            expected = sum(teeth0 * (teeth1 - count + 1) for count in counts)
            cloth = two_rows("ring", teeth0, "line", teeth1, "reversed", minimum)
            self.assertEqual(len(all_states(cloth)), expected)

    def test_two_rings(self):
        for teeth0, teeth1 in ((1, 1), (2, 3), (4, 3)):
            expected = teeth0 * teeth1 * (min(teeth0, teeth1) + 1)
            self.assertEqual(len(all_states(two_rows("ring", teeth0, "ring", teeth1))), expected)

    def test_sharing_out_the_free_teeth(self):
        joined = [two_rows("ring", 2, "line", 3), two_rows("line", 2, "ring", 3, "reversed", 1)]
        for cloth in joined + [SELF_LINE, SELF_RING]:
            self.assertEqual(sorted(states_of(cloth)), sorted(all_states(cloth)))

    def test_both_feet_on_one_row(self):
        for teeth in (1, 2, 3, 4, 5):
            halves = range(teeth // 2 + 1)
            feet = ((0, 1), (0, 0))
            ring = Cloth((("ring", teeth, feet),), (("parallel", 0),))
            self.assertEqual(len(all_states(ring)), sum(teeth * (teeth - 2 * count + 1) for count in halves))
            line = Cloth((("line", teeth, feet),), (("parallel", 0),))
            places = sum((teeth - 2 * count + 1) * (teeth - 2 * count + 2) // 2 for count in halves)
            self.assertEqual(len(all_states(line)), places)

    def test_two_feet_on_a_ring_of_two(self):
        rows = (("ring", 2, ((1, 0), (0, 0))), ("line", 1, ((0, 1), (1, 1))))
        cloth = Cloth(rows, (("parallel", 0), ("reversed", 0)))
        expected = 0
        for count0, count1 in ((0, 0), (0, 1), (1, 0)):
            on_line = {0: 3, 1: 1}[count0 + count1]
            expected += 2 * (2 - count0 - count1 + 1) * on_line
        self.assertEqual(len(all_states(cloth)), expected)


class GapsTest(unittest.TestCase):
    def test_lines(self):
        self.assertEqual(gaps(A, ((4, 0, 0),)), ((4, 0), (0, 5)))
        self.assertEqual(gaps(A, ((0, 1, 4),)), ((0, 0), (1, 0)))
        self.assertEqual(gaps(D, U), ((0, 3, 0), (0, 5), (2, 3)))
        self.assertEqual(gaps(D, ((0, 3, 1), (2, 0, 1))), ((0, 1, 0), (3, 1), (0, 4)))

    def test_one_foot_on_a_ring(self):
        self.assertEqual(gaps(B, P), ((2,), (0, 4)))
        self.assertEqual(gaps(B, ((2, 1, 2),)), ((1,), (1, 2)))
        self.assertEqual(gaps(B, ((2, 1, 3),)), ((0,), (1, 1)))

    def test_several_feet_on_a_ring(self):
        self.assertEqual(gaps(TWO, ((0, 0, 1), (3, 2, 1))), ((1, 1), (0, 4), (3, 1)))
        self.assertEqual(gaps(TWO, ((2, 1, 2), (0, 5, 1))), ((1, 0), (1, 2), (0, 4)))
        self.assertEqual(gaps(TWO, ((3, 0, 0), (0, 7, 0))), ((4, 0), (0, 5), (0, 5)))
        self.assertEqual(gaps(TWO, ((3, 0, 0), (0, 3, 0))), ((0, 4), (0, 5), (0, 5)))

    def test_rows_without_feet(self):
        self.assertEqual(gaps(EMPTY, ()), ((4,), (3,)))

    def test_both_feet_on_one_row(self):
        self.assertEqual(gaps(SELF_LINE, ((3, 0, 2),)), ((0, 1, 0),))
        self.assertEqual(gaps(SELF_RING, ((4, 7, 2),)), ((1, 0),))

    def test_the_order_of_feet_on_the_row(self):
        self.assertEqual(gaps(CROSSED, ((0, 4, 2), (0, 3, 3))), ((0, 1, 0), (0, 1, 0)))

    def test_gaps_are_tuples_of_tuples(self):
        for cloth, state in ((A, S), (B, P), (EMPTY, ()), (TWO, ((0, 0, 1), (3, 2, 1)))):
            found = gaps(cloth, state)
            self.assertIs(type(found), tuple)
            self.assertEqual({type(row) for row in found}, {tuple})

    def test_values_that_are_no_state(self):
        for value in ODD_VALUES + (list(S), ((0, 1, 5),), ((0, True, 1),), ((-1, 1, 1),), ((0, 0, -1),), S + S, S[0]):
            with self.subTest(value), self.assertRaises(InvalidState):
                gaps(A, value)


class PairsTest(unittest.TestCase):
    def test_open_zips_have_no_pairs(self):
        self.assertEqual(pairs(A, ((1, 1, 0),)), [])
        self.assertEqual(pairs(D, U), [])
        self.assertEqual(pairs(EMPTY, ()), [])

    def test_parallel(self):
        self.assertEqual(pairs(A, ((1, 2, 3),)), [((0, 1), (1, 2)), ((0, 2), (1, 3)), ((0, 3), (1, 4))])

    def test_reversed(self):
        cloth = two_rows("line", 4, "line", 5, "reversed")
        self.assertEqual(pairs(cloth, ((1, 2, 3),)), [((0, 1), (1, 4)), ((0, 2), (1, 3)), ((0, 3), (1, 2))])
        self.assertEqual(pairs(cloth, ((3, 4, 1),)), [((0, 3), (1, 4))])

    def test_around_a_ring(self):
        self.assertEqual(pairs(B, ((2, 1, 3),)), [((0, 2), (1, 1)), ((0, 0), (1, 2)), ((0, 1), (1, 3))])
        cloth = two_rows("line", 5, "ring", 3, "reversed")
        self.assertEqual(pairs(cloth, ((0, 2, 2),)), [((0, 0), (1, 0)), ((0, 1), (1, 2))])
        self.assertEqual(pairs(cloth, ((2, 1, 3),)), [((0, 2), (1, 0)), ((0, 3), (1, 2)), ((0, 4), (1, 1))])

    def test_positions_beyond_the_teeth_of_a_ring(self):
        self.assertEqual(pairs(TWO, ((3, 0, 1), (1, 5, 2))), [((0, 3), (1, 0)), ((2, 1), (0, 2)), ((2, 2), (0, 1))])
        self.assertEqual(pairs(SELF_RING, ((4, 7, 2),)), [((0, 4), (0, 2)), ((0, 0), (0, 3))])

    def test_side_0_first_whatever_its_row(self):
        cloth = Cloth((("line", 4, ((0, 1),)), ("line", 5, ((0, 0),))), (("parallel", 0),))
        self.assertEqual(pairs(cloth, ((3, 0, 2),)), [((1, 3), (0, 0)), ((1, 4), (0, 1))])
        self.assertEqual(pairs(SELF_LINE, ((3, 0, 2),)), [((0, 3), (0, 1)), ((0, 4), (0, 0))])

    def test_zip_by_zip(self):
        expected = [((1, 0), (0, 4)), ((1, 1), (0, 5)), ((0, 0), (1, 4)), ((0, 1), (1, 3))]
        self.assertEqual(pairs(CROSSED, ((0, 4, 2), (0, 3, 2))), expected)

    def test_a_returned_list_belongs_to_the_caller(self):
        first = pairs(A, S)
        first.append("x")
        first[0] = None
        self.assertEqual(pairs(A, S), [((0, 0), (1, 1)), ((0, 1), (1, 2))])
        nothing = pairs(A, ((0, 0, 0),))
        nothing.append("x")
        self.assertEqual(pairs(A, ((0, 0, 0),)), [])
        self.assertEqual((A.rows(), gaps(A, S)), ((("line", 4, ((0, 0),)), ("line", 5, ((0, 1),))), ((0, 2), (1, 2))))

    def test_values_that_are_no_state(self):
        for value in ODD_VALUES + (list(S), ((0, 1, 5),), ((0, True, 1),), ((-1, 1, 1),), ((0, 0, -1),), S + S, S[0]):
            with self.subTest(value), self.assertRaises(InvalidState):
                pairs(A, value)


class TogetherTest(unittest.TestCase):
    """Over all states of small cloths, gaps and pairs account for every tooth."""

    def setUp(self):
        self.cloths = [
            two_rows(sort0, 2, sort1, 3, direction)
            for sort0 in ("line", "ring") for sort1 in ("line", "ring") for direction in ("parallel", "reversed")
        ]
        self.cloths.append(SELF_LINE)
        self.cloths.append(SELF_RING)
        zips = (("parallel", 0), ("reversed", 0))
        self.cloths.append(Cloth((("ring", 2, ((1, 0), (0, 0))), ("ring", 2, ((1, 1), (0, 1)))), zips))
        rows = (("line", 2, ((1, 0), (0, 0))), ("ring", 2, ((0, 1), (1, 1))), ("ring", 1, ()))
        self.cloths.append(Cloth(rows, zips))

    def test_paired_teeth_and_gaps_add_up(self):
        for cloth in self.cloths:
            for state in all_states(cloth):
                paired = [tooth for pair in pairs(cloth, state) for tooth in pair]
                self.assertEqual(len(paired), len(set(paired)), (str(cloth), state))
                for index, (sort, teeth, feet) in enumerate(cloth.rows()):
                    found = gaps(cloth, state)[index]
                    on_row = [tooth for row, tooth in paired if row == index]
                    self.assertEqual(sum(found) + len(on_row), teeth, (str(cloth), state))
                    self.assertTrue(all(gap >= 0 for gap in found))
                    self.assertTrue(all(0 <= tooth < teeth for tooth in on_row))
                    self.assertEqual(len(found), max(len(feet), 1) if sort == "ring" else len(feet) + 1)

    def test_pairs_keep_their_offset(self):
        for cloth in self.cloths:
            for state in all_states(cloth):
                expected = []
                for number, (low0, low1, count) in enumerate(state):
                    row0, row1 = cloth.row_of(number, 0), cloth.row_of(number, 1)
                    teeth0, teeth1 = cloth.rows()[row0][1], cloth.rows()[row1][1]
                    for step in range(count):
                        other = step if cloth.zips()[number][0] == "parallel" else count - 1 - step
                        expected.append(((row0, (low0 + step) % teeth0), (row1, (low1 + other) % teeth1)))
                self.assertEqual(pairs(cloth, state), expected)


if __name__ == "__main__":
    unittest.main()
