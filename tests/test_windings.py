import itertools
import unittest

from tests.samples import A, B, C, ODD_VALUES, P, Q, R, S, T, U
from tests.worlds import DIRECTIONS, SORTS, components, one_row, random_cloth, states_of, two_rows
from zipslack import windings
from zipslack.clamps import clamped_feet
from zipslack.cloths import Cloth
from zipslack.errors import InvalidState
from zipslack.moves import apply_move, legal_moves
from zipslack.windings import constraints, find_winding, is_admissible

NO_ZIPS = Cloth((("line", 4, ()), ("ring", 3, ())))
# Two rings joined by a parallel and by a reversed zip.
BOTH = Cloth(
    (("ring", 4, ((0, 0), (1, 0))), ("ring", 6, ((0, 1), (1, 1)))),
    (("parallel", 1), ("reversed", 1)),
)
# A ring with a bound zip, a ring without feet, and a line.
LONE = Cloth((("ring", 3, ()), ("line", 5, ((0, 1),)), ("ring", 3, ((0, 0),))), (("parallel", 1),))


def low_and_high(cloth, state, foot, winding):
    """The positions of a foot in a state that is shifted by a winding."""
    number, side = foot
    row = cloth.row_of(number, side)
    low = state[number][side] + winding[row] * cloth.rows()[row][1]
    return low, low + state[number][2]


def zip_offset(cloth, state, number, winding):
    low0, high0 = low_and_high(cloth, state, (number, 0), winding)
    low1, high1 = low_and_high(cloth, state, (number, 1), winding)
    return low1 - low0 if cloth.zips()[number][0] == "parallel" else low0 + high1


def is_fitting(cloth, start, goal, winding):
    """Whether a winding is admissible, from the shifted positions of the goal."""
    still = [0] * len(winding)
    for turns, (sort, teeth, feet) in zip(winding, cloth.rows()):
        if turns != 0 and (sort == "line" or not feet):
            return False
    for number, (direction, minimum) in enumerate(cloth.zips()):
        if minimum > 0 and zip_offset(cloth, start, number, still) != zip_offset(cloth, goal, number, winding):
            return False
    for foot in clamped_feet(cloth, start):
        if low_and_high(cloth, start, foot, still)[0] != low_and_high(cloth, goal, foot, winding)[0]:
            return False
    return True


def sweep_cloths():
    cloths = [NO_ZIPS]
    for direction in DIRECTIONS:
        for minimum in (0, 1, 2):
            cloths.extend(two_rows(sort0, 2, sort1, 3, direction, minimum) for sort0 in SORTS for sort1 in SORTS)
            cloths.extend(one_row(sort, 4, direction, minimum) for sort in SORTS)
    cloths.extend(random_cloth(seed, 3, 3) for seed in range(300, 330))
    return [cloth for cloth in cloths if 0 < len(states_of(cloth)) < 600]


def sweep():
    """Pairs of states of small cloths."""
    for cloth in sweep_cloths():
        states = states_of(cloth)
        step = 1 + len(states) ** 2 // 200
        for start, goal in list(itertools.product(states, repeat=2))[::step]:
            yield cloth, start, goal


class WindingsCase(unittest.TestCase):
    def assert_none(self, cloth, start, goal):
        self.assertIsNone(find_winding(cloth, start, goal))
        for winding in itertools.product(range(-3, 4), repeat=len(cloth.rows())):
            self.assertIs(is_admissible(cloth, start, goal, winding), False)

    def assert_found(self, cloth, start, goal, expected=None):
        winding = find_winding(cloth, start, goal)
        self.assertIs(type(winding), tuple)
        self.assertIs(is_admissible(cloth, start, goal, winding), True)
        self.assertEqual(winding, find_winding(cloth, start, goal))
        if expected is not None:
            self.assertEqual(winding, expected)


class ExamplesTest(WindingsCase):
    def test_the_examples(self):
        self.assertEqual(constraints(B, P, R), [(("offset", 0), (-3, 0), 1)])
        self.assertIs(is_admissible(B, P, Q, (1, 0)), True)
        self.assertEqual(find_winding(B, P, Q), (1, 0))
        self.assertIsNone(find_winding(B, P, R))

    def test_arguments_by_name(self):
        self.assertEqual(constraints(goal=R, start=P, cloth=B), constraints(B, P, R))
        self.assertIs(is_admissible(winding=(1, 0), goal=Q, start=P, cloth=B), True)
        self.assertEqual(find_winding(goal=Q, start=P, cloth=B), (1, 0))

    def test_functions_are_defined_in_their_file(self):
        for name in ("constraints", "is_admissible", "find_winding"):
            self.assertEqual(getattr(windings, name).__module__, "zipslack.windings")


class ConstraintsTest(unittest.TestCase):
    def test_nothing_is_bound_or_clamped(self):
        self.assertEqual(constraints(A, S, ((3, 0, 1),)), [])
        self.assertEqual(constraints(NO_ZIPS, (), ()), [])
        self.assertEqual(constraints(two_rows("ring", 3, "ring", 4), ((0, 0, 1),), ((2, 1, 0),)), [])

    def test_lines(self):
        cloth = two_rows("line", 6, "line", 6, "parallel", 1)
        self.assertEqual(constraints(cloth, ((1, 3, 1),), ((2, 5, 1),)), [(("offset", 0), (0, 0), -1)])
        self.assertEqual(constraints(cloth, ((1, 3, 1),), ((2, 4, 2),)), [(("offset", 0), (0, 0), 0)])
        cloth = two_rows("line", 6, "line", 6, "reversed", 1)
        self.assertEqual(constraints(cloth, ((1, 3, 1),), ((2, 3, 1),)), [(("offset", 0), (0, 0), -1)])
        self.assertEqual(constraints(cloth, ((1, 3, 1),), ((1, 2, 2),)), [(("offset", 0), (0, 0), 0)])
        self.assertEqual(constraints(cloth, ((1, 3, 1),), ((1, 3, 3),)), [(("offset", 0), (0, 0), -2)])

    def test_a_foot_on_a_ring(self):
        self.assertEqual(constraints(two_rows("ring", 3, "line", 6, "parallel", 1), P, ((1, 2, 1),)),
                         [(("offset", 0), (-3, 0), -1)])
        self.assertEqual(constraints(two_rows("line", 6, "ring", 3, "parallel", 1), P, ((2, 1, 1),)),
                         [(("offset", 0), (0, 3), 1)])
        self.assertEqual(constraints(two_rows("ring", 3, "line", 6, "reversed", 1), P, ((1, 2, 2),)),
                         [(("offset", 0), (3, 0), -4)])
        self.assertEqual(constraints(two_rows("line", 6, "ring", 3, "reversed", 1), P, ((1, 2, 2),)),
                         [(("offset", 0), (0, 3), -4)])

    def test_two_rings(self):
        self.assertEqual(constraints(two_rows("ring", 3, "ring", 5, "parallel", 1), P, ((2, 1, 1),)),
                         [(("offset", 0), (-3, 5), 1)])
        self.assertEqual(constraints(two_rows("ring", 3, "ring", 5, "reversed", 1), P, ((2, 1, 1),)),
                         [(("offset", 0), (3, 5), -3)])

    def test_twice_on_the_same_ring(self):
        self.assertEqual(constraints(one_row("ring", 5, "parallel", 1), ((0, 2, 1),), ((4, 7, 1),)),
                         [(("offset", 0), (0,), -1)])
        self.assertEqual(constraints(one_row("ring", 5, "reversed", 1), ((0, 2, 1),), ((4, 7, 1),)),
                         [(("offset", 0), (10,), -9)])

    def test_a_row_of_its_own_place(self):
        self.assertEqual(constraints(LONE, P, ((1, 0, 1),)), [(("offset", 0), (0, 0, -3), 1)])

    def test_clamped_feet(self):
        self.assertEqual(constraints(C, T, T), [
            (("foot", 0, 0), (2, 0), 0), (("foot", 0, 1), (0, 0), 0), (("offset", 0), (-2, 0), 0),
        ])
        self.assertEqual(constraints(C, T, ((1, 1, 2),)), [
            (("foot", 0, 0), (2, 0), -1), (("foot", 0, 1), (0, 0), -1), (("offset", 0), (-2, 0), 0),
        ])

    def test_only_feet_that_are_clamped_in_the_start_state(self):
        cloth = two_rows("ring", 2, "line", 4, "parallel", 1)
        clamping = Cloth((("ring", 2, ((0, 0), (1, 0))), ("line", 4, ((0, 1), (1, 1)))),
                         (("parallel", 1), ("parallel", 0)))
        self.assertEqual(clamped_feet(cloth, ((0, 0, 2),)), [])
        self.assertEqual(constraints(cloth, ((0, 0, 2),), ((1, 1, 1),)), [(("offset", 0), (-2, 0), 0)])
        self.assertEqual([name for name, coefficients, value in
                          constraints(clamping, ((0, 0, 1), (1, 1, 1)), ((0, 0, 1), (2, 3, 0)))], [("offset", 0)])

    def test_several_constraints_are_sorted(self):
        self.assertEqual(constraints(BOTH, ((0, 0, 1), (2, 3, 1)), ((1, 2, 1), (3, 7, 1))), [
            (("offset", 0), (-4, 6), -1), (("offset", 1), (4, 6), -5),
        ])
        rows = (("line", 4, ((0, 0), (1, 0))), ("line", 4, ((1, 1), (0, 1))))
        found = constraints(Cloth(rows, (("parallel", 1),) * 2), ((0, 3, 1), (1, 2, 1)), ((0, 3, 1), (1, 2, 1)))
        names = [name for name, coefficients, value in found]
        self.assertEqual(names, [("foot", 0, 0), ("foot", 0, 1), ("foot", 1, 0), ("foot", 1, 1),
                                 ("offset", 0), ("offset", 1)])

    def test_a_state_and_itself(self):
        for cloth in sweep_cloths():
            for state in states_of(cloth)[::7]:
                for name, coefficients, value in constraints(cloth, state, state):
                    self.assertEqual(value, 0)
                self.assertIs(is_admissible(cloth, state, state, (0,) * len(cloth.rows())), True)
                self.assertIsNotNone(find_winding(cloth, state, state))

    def test_they_are_what_makes_a_winding_admissible(self):
        for cloth, start, goal in sweep():
            required = constraints(cloth, start, goal)
            self.assertEqual(required, sorted(required))
            bound = [("offset", number) for number, (direction, minimum) in enumerate(cloth.zips()) if minimum > 0]
            feet = [("foot",) + foot for foot in clamped_feet(cloth, start)]
            self.assertEqual([name for name, coefficients, value in required], feet + bound)
            for winding in itertools.product((-1, 0, 2), repeat=min(2, len(cloth.rows()))):
                winding += (0,) * (len(cloth.rows()) - 2)
                sums = [sum(map(int.__mul__, coefficients, winding)) == value for name, coefficients, value in required]
                fitting = is_fitting(cloth, start, goal, winding)
                self.assertIs(is_admissible(cloth, start, goal, winding), fitting, (str(cloth), start, goal, winding))
                windable = all(turns == 0 or (sort == "ring" and feet)
                               for turns, (sort, teeth, feet) in zip(winding, cloth.rows()))
                self.assertEqual(all(sums) and windable, fitting)

    def test_coefficients_where_the_winding_must_be_0(self):
        for cloth, start, goal in sweep():
            for name, coefficients, value in constraints(cloth, start, goal):
                self.assertEqual(len(coefficients), len(cloth.rows()))
                for coefficient, (sort, teeth, feet) in zip(coefficients, cloth.rows()):
                    if sort == "line" or not feet:
                        self.assertEqual(coefficient, 0)

    def test_a_returned_list_belongs_to_the_caller(self):
        first = constraints(B, P, R)
        first.clear()
        self.assertEqual(constraints(B, P, R), [(("offset", 0), (-3, 0), 1)])
        nothing = constraints(A, S, S)
        nothing.append("x")
        self.assertEqual((constraints(A, S, S), find_winding(A, S, S)), ([], (0, 0)))


class AdmissibleTest(unittest.TestCase):
    def test_the_turns_of_a_ring(self):
        for turns in range(-3, 4):
            self.assertIs(is_admissible(B, P, Q, (turns, 0)), turns == 1)
            self.assertIs(is_admissible(B, Q, P, (turns, 0)), turns == -1)
            self.assertIs(is_admissible(B, P, P, (turns, 0)), turns == 0)
            self.assertIs(is_admissible(B, P, R, (turns, 0)), False)

    def test_a_ring_that_nothing_holds(self):
        cloth = two_rows("ring", 3, "line", 4)
        for turns in (-10 ** 29, -5, -1, 0, 1, 7, 10 ** 29):
            self.assertIs(is_admissible(cloth, ((0, 0, 1),), ((2, 3, 0),), (turns, 0)), True)

    def test_not_0_on_a_line_or_on_a_ring_without_feet(self):
        self.assertIs(is_admissible(A, S, S, (0, 0)), True)
        for winding in ((1, 0), (0, 1), (-1, 0), (0, -1), (1, -1), (10 ** 29, 0)):
            self.assertIs(is_admissible(A, S, S, winding), False)
        for winding in ((1, 1), (1, -1), (0, 1)):
            self.assertIs(is_admissible(B, P, Q, winding), False)
        self.assertIs(is_admissible(NO_ZIPS, (), (), (0, 0)), True)
        self.assertIs(is_admissible(NO_ZIPS, (), (), (0, 1)), False)
        self.assertIs(is_admissible(NO_ZIPS, (), (), (1, 0)), False)
        self.assertIs(is_admissible(LONE, P, ((0, 3, 1),), (0, 0, 1)), True)
        self.assertIs(is_admissible(LONE, P, ((0, 3, 1),), (1, 0, 1)), False)

    def test_every_constraint_counts(self):
        cloth = two_rows("ring", 2, "ring", 2, "parallel", 2)
        state = ((0, 0, 2),)
        self.assertIs(is_admissible(cloth, state, state, (0, 0)), True)
        for winding in ((1, 1), (-1, -1), (1, 0), (0, 1)):
            self.assertIs(is_admissible(cloth, state, state, winding), False)
        loose = two_rows("ring", 3, "ring", 3, "parallel", 2)
        for winding in ((1, 1), (-1, -1), (0, 0)):
            self.assertIs(is_admissible(loose, state, state, winding), True)
        for winding in ((1, 0), (0, 1), (1, -1)):
            self.assertIs(is_admissible(loose, state, state, winding), False)

    def test_any_value(self):
        odd = ((1,), (), (1, 0, 0), [1, 0], (True, 0), (1, False), (True, False), ("1", 0), (1, None), ((1,), 0),
               ((1, 0),), [(1, 0)], "10", (1, [0]), ([1], 0), 1, {0: 1}, (None, None), B)
        for value in odd + ODD_VALUES:
            with self.subTest(value):
                self.assertIs(is_admissible(B, P, Q, value), False)
                self.assertIs(is_admissible(B, P, R, value), False)

    def test_booleans_where_0_is_admissible(self):
        for value in ((False, 0), (0, False), (False, False), [0, 0]):
            self.assertIs(is_admissible(A, S, S, value), False)


class FindWindingTest(WindingsCase):
    def test_lines(self):
        cloth = two_rows("line", 6, "line", 6, "parallel", 1)
        self.assert_found(cloth, ((1, 3, 1),), ((2, 4, 2),), (0, 0))
        self.assert_none(cloth, ((1, 3, 1),), ((2, 5, 1),))
        self.assert_found(A, S, ((3, 0, 1),), (0, 0))
        self.assert_found(NO_ZIPS, (), (), (0, 0))

    def test_a_ring_and_a_line(self):
        self.assert_found(B, Q, P, (-1, 0))
        self.assert_found(LONE, P, ((0, 3, 1),), (0, 0, 1))
        self.assert_none(LONE, P, ((1, 0, 1),))
        cloth = two_rows("line", 6, "ring", 2, "reversed", 1)
        self.assert_found(cloth, ((0, 1, 1),), ((5, 0, 1),), (0, -2))
        self.assert_none(cloth, ((0, 1, 1),), ((4, 0, 1),))

    def test_two_rings(self):
        cloth = two_rows("ring", 3, "ring", 5, "parallel", 1)
        for goal in states_of(cloth):
            self.assert_found(cloth, P, goal)
        cloth = two_rows("ring", 4, "ring", 6, "reversed", 1)
        for ((low0, low1, count),) in states_of(cloth):
            if (low0 + low1 + count) % 2 == 1:
                self.assert_found(cloth, P, ((low0, low1, count),))
            else:
                self.assert_none(cloth, P, ((low0, low1, count),))

    def test_two_rings_joined_twice(self):
        self.assert_found(BOTH, ((0, 0, 1), (2, 3, 1)), ((0, 0, 1), (2, 3, 1)), (0, 0))
        self.assert_found(BOTH, ((3, 3, 1), (6, 8, 1)), ((1, 5, 1), (2, 8, 1)), (1, 0))
        self.assert_found(BOTH, ((2, 1, 1), (4, 3, 1)), ((0, 5, 1), (3, 10, 1)), (0, -1))
        self.assert_found(BOTH, ((3, 5, 1), (6, 9, 1)), ((1, 1, 1), (2, 3, 1)), (1, 1))
        self.assert_none(BOTH, ((0, 0, 1), (2, 3, 1)), ((1, 2, 1), (3, 7, 1)))

    def test_constraints_that_hold_only_one_by_one(self):
        start, goal = ((2, 5, 2), (4, 7, 2)), ((0, 1, 2), (2, 5, 2))
        self.assertEqual(constraints(BOTH, start, goal), [(("offset", 0), (-4, 6), 2), (("offset", 1), (4, 6), 4)])
        self.assert_none(BOTH, start, goal)

    def test_the_same_ring_twice(self):
        cloth = one_row("ring", 5, "reversed", 1)
        self.assert_found(cloth, ((0, 4, 1),), ((1, 3, 1),), (0,))
        self.assert_none(cloth, ((0, 4, 1),), ((3, 6, 1),))
        self.assert_found(cloth, ((0, 2, 1),), ((4, 8, 1),), (-1,))
        cloth = one_row("ring", 5, "parallel", 1)
        self.assert_found(cloth, ((0, 2, 1),), ((4, 6, 1),))
        self.assert_none(cloth, ((0, 2, 1),), ((4, 7, 1),))

    def test_clamped_feet(self):
        self.assert_found(C, T, T, (0, 0))
        for goal in (((1, 0, 2),), ((0, 1, 2),), ((1, 1, 2),)):
            self.assert_none(C, T, goal)

    def test_a_winding_is_found_where_there_is_one(self):
        for cloth, start, goal in sweep():
            winding = find_winding(cloth, start, goal)
            if winding is not None:
                self.assertIs(is_fitting(cloth, start, goal, winding), True, (str(cloth), start, goal))
            else:
                for turns in itertools.product(range(-2, 3), repeat=min(2, len(cloth.rows()))):
                    full = turns + (0,) * (len(cloth.rows()) - 2)
                    self.assertIs(is_admissible(cloth, start, goal, full), False, (str(cloth), start, goal, full))

    def test_a_winding_is_there_where_moves_lead_to_the_goal(self):
        for cloth in sweep_cloths():
            states = states_of(cloth)

            def reached(state):
                return [apply_move(cloth, state, move) for move in legal_moves(cloth, state)]

            first = components(states, reached)
            step = 1 + len(states) ** 2 // 400
            for start, goal in list(itertools.product(states, repeat=2))[::step]:
                connected = first[start] == first[goal]
                self.assertIs(find_winding(cloth, start, goal) is not None, connected, (str(cloth), start, goal))


class InvalidStateTest(unittest.TestCase):
    def test_values_that_are_no_state(self):
        for value in ODD_VALUES + (list(P), ((0, 0, 0),), ((0, False, 1),), ((3, 0, 1),), P + P, P[0], U):
            with self.subTest(value):
                for start, goal in ((value, P), (P, value), (value, value)):
                    with self.assertRaises(InvalidState):
                        constraints(B, start, goal)
                    with self.assertRaises(InvalidState):
                        find_winding(B, start, goal)
                    for winding in ((0, 0), None, (True, 0), ()):
                        with self.assertRaises(InvalidState):
                            is_admissible(B, start, goal, winding)


if __name__ == "__main__":
    unittest.main()
