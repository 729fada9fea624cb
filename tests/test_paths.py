import itertools
import unittest

from tests.samples import A, B, C, D, ODD_VALUES, P, Q, R, S, T, U
from tests.test_costs import FAR, FAR_GOAL, FAR_START, FARTHER_GOAL, NO_ZIPS, sweep, sweep_cloths
from tests.travels import neighbours
from tests.worlds import DIRECTIONS, large_cases, moves_from, one_row, states_of, two_rows
from zipslack import paths
from zipslack.clamps import clamped_feet
from zipslack.cloths import Cloth
from zipslack.costs import distance
from zipslack.errors import InvalidState, LimitExceeded
from zipslack.moves import apply_move, is_legal
from zipslack.paths import shortest_path


class PathsCase(unittest.TestCase):
    def assert_path(self, cloth, start, goal, count=None):
        """The path is legal, leads to the goal and is as long as the distance says."""
        path = shortest_path(cloth, start, goal)
        self.assertIs(type(path), list)
        state = start
        for move in path:
            self.assertIs(is_legal(cloth, state, move), True, (str(cloth), start, goal, path, move))
            state = apply_move(cloth, state, move)
        self.assertEqual(state, goal, (str(cloth), start, goal, path))
        self.assertEqual(len(path), distance(cloth, start, goal)[0])
        if count is not None:
            self.assertEqual(len(path), count)
        return path


class ExamplesTest(PathsCase):
    def test_the_examples(self):
        self.assertEqual(shortest_path(A, S, ((0, 1, 3),)), [("close", 0, 1)])
        self.assertIsNone(shortest_path(B, P, R))

    def test_arguments_by_name(self):
        self.assertEqual(shortest_path(goal=((0, 1, 3),), start=S, cloth=A), [("close", 0, 1)])

    def test_the_function_is_defined_in_its_file(self):
        self.assertEqual(shortest_path.__module__, "zipslack.paths")
        self.assertIs(paths.shortest_path, shortest_path)


class ShortestPathTest(PathsCase):
    def test_one_move(self):
        for move in (("close", 0, 1), ("open", 0, 0), ("open", 0, 1)):
            self.assertEqual(shortest_path(A, S, apply_move(A, S, move)), [move])
        for move in (("slip", 0, 0, 1), ("slip", 0, 0, -1), ("slip", 0, 1, 1), ("slip", 0, 1, -1)):
            self.assertEqual(shortest_path(A, ((1, 1, 0),), apply_move(A, ((1, 1, 0),), move)), [move])

    def test_a_zip_keeps_common_pairs(self):
        cloth = two_rows("line", 9, "line", 9)
        path = self.assert_path(cloth, ((0, 1, 5),), ((3, 4, 4),), 5)
        self.assertEqual(sorted(path), [("close", 0, 1)] * 2 + [("open", 0, 0)] * 3)

    def test_a_bound_zip_crawls(self):
        cloth = two_rows("line", 9, "line", 9, "parallel", 2)
        self.assert_path(cloth, ((0, 0, 2),), ((7, 7, 2),), 14)
        self.assert_path(cloth, ((7, 7, 2),), ((0, 0, 2),), 14)
        self.assert_path(cloth, ((0, 0, 4),), ((5, 5, 3),), 9)
        self.assert_path(cloth, ((5, 5, 3),), ((0, 0, 4),), 9)
        cloth = two_rows("line", 9, "line", 9, "reversed", 2)
        self.assert_path(cloth, ((0, 7, 2),), ((7, 0, 2),), 14)
        self.assertIsNone(shortest_path(cloth, ((0, 7, 2),), ((7, 1, 2),)))

    def test_another_offset(self):
        for direction in DIRECTIONS:
            cloth = two_rows("line", 9, "line", 9, direction)
            for low0, low1 in itertools.product(range(7), repeat=2):
                self.assert_path(cloth, ((2, 3, 3),), ((low0, low1, 2),))
                self.assert_path(cloth, ((low0, low1, 2),), ((2, 3, 3),))

    def test_around_a_ring(self):
        path = self.assert_path(B, P, Q, 6)
        self.assertEqual(path, [("close", 0, 1), ("open", 0, 0)] * 3)
        self.assertEqual(self.assert_path(B, Q, P, 6), [("close", 0, 0), ("open", 0, 1)] * 3)

    def test_feet_that_wait_for_each_other(self):
        rows = (("ring", 6, ((0, 0), (1, 0), (2, 0))), ("line", 9, ((0, 1), (1, 1), (2, 1))))
        cloth = Cloth(rows, (("parallel", 1), ("parallel", 1), ("parallel", 1)))
        start, goal = ((0, 0, 1), (1, 1, 1), (2, 2, 1)), ((5, 5, 1), (6, 6, 1), (7, 7, 1))
        self.assert_path(cloth, start, goal, 30)
        self.assert_path(cloth, goal, start, 30)

    def test_from_a_state_to_itself(self):
        for cloth in sweep_cloths():
            for state in states_of(cloth)[::9]:
                self.assertEqual(shortest_path(cloth, state, state), [])
        self.assertEqual(shortest_path(NO_ZIPS, (), ()), [])
        self.assertEqual(shortest_path(C, T, T), [])

    def test_against_a_search(self):
        bound = clamped = unreachable = 0
        for cloth in sweep_cloths():
            states = states_of(cloth)
            for start in states[::1 + len(states) // 2]:
                counts = moves_from(cloth, start, neighbours(cloth))
                for goal in states[::1 + len(states) // 40]:
                    if goal in counts:
                        self.assert_path(cloth, start, goal, counts[goal])
                    else:
                        self.assertIsNone(shortest_path(cloth, start, goal))
                        unreachable += 1
                bound += any(minimum > 0 for direction, minimum in cloth.zips())
                clamped += clamped_feet(cloth, start) != []
        self.assertGreater(min(bound, clamped, unreachable), 20)

    def test_large_cloths(self):
        found = 0
        for cloth, start, goal in large_cases(21, 500):
            count, windings = distance(cloth, start, goal)
            if count is None:
                self.assertIsNone(shortest_path(cloth, start, goal))
            elif count <= 2000:
                found += 1
                self.assert_path(cloth, start, goal)
        self.assertGreater(found, 150)

    def test_after_many_moves(self):
        for cloth, start, goal in large_cases(22, 60):
            state = start
            for step in range(40):
                found = neighbours(cloth)(state)
                state = found[7 * step % len(found)] if found else state
            self.assertLessEqual(len(self.assert_path(cloth, start, state)), 40)

    def test_twice_on_the_same_row(self):
        for direction, sort in itertools.product(DIRECTIONS, ("line", "ring")):
            for feet in (((0, 0), (0, 1)), ((0, 1), (0, 0))):
                cloth = one_row(sort, 5, direction, 0, feet)
                states = states_of(cloth)
                for start, goal in list(itertools.product(states, repeat=2))[::len(states) // 3]:
                    self.assert_path(cloth, start, goal)


class LimitTest(PathsCase):
    def test_2000_moves(self):
        self.assert_path(FAR, FAR_START, FAR_GOAL, 2000)
        self.assert_path(FAR, FAR_GOAL, FAR_START, 2000)

    def test_more_than_2000_moves(self):
        for start, goal in ((FAR_START, FARTHER_GOAL), (FARTHER_GOAL, FAR_START)):
            with self.assertRaises(LimitExceeded) as caught:
                shortest_path(FAR, start, goal)
            self.assertEqual(caught.exception.limit, 2000)


class ResultsTest(PathsCase):
    def test_a_returned_list_belongs_to_the_caller(self):
        first = shortest_path(B, P, Q)
        expected = list(first)
        first.clear()
        shortest_path(B, P, P).append(("close", 0, 0))
        self.assertEqual(shortest_path(B, P, Q), expected)
        self.assertEqual(shortest_path(B, P, P), [])

    def test_the_same_call_gives_the_same_result(self):
        for cloth, start, goal in sweep(4):
            self.assertEqual(shortest_path(cloth, start, goal), shortest_path(cloth, start, goal))

    def test_the_form_of_a_path(self):
        for cloth, start, goal in sweep(4):
            for move in shortest_path(cloth, start, goal) or []:
                self.assertIs(type(move), tuple)
                self.assertEqual([type(part) for part in move], [str] + [int] * (len(move) - 1))


class InvalidStateTest(unittest.TestCase):
    def test_values_that_are_no_state(self):
        for value in ODD_VALUES + (list(P), ((0, 0, 0),), ((0, False, 1),), ((3, 0, 1),), P + P, P[0], U):
            with self.subTest(value):
                for start, goal in ((value, P), (P, value), (value, value), (value, R)):
                    with self.assertRaises(InvalidState):
                        shortest_path(B, start, goal)

    def test_before_the_limit(self):
        for start, goal in ((FAR_START, FARTHER_GOAL[:3] + ((22, 32, True),)), (FAR_START[:3], FARTHER_GOAL)):
            with self.assertRaises(InvalidState):
                shortest_path(FAR, start, goal)
        with self.assertRaises(InvalidState):
            shortest_path(D, U, S)


if __name__ == "__main__":
    unittest.main()
