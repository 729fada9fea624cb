import itertools
import random
import unittest

from tests.samples import A, B, C, D, ODD_VALUES, P, Q, R, S, T, U
from tests.travels import direct_bound, direct_costs, neighbours, windings_of
from tests.worlds import DIRECTIONS, SORTS, large_cases, moves_from, one_row, random_cloth, states_of, two_rows
from zipslack import costs
from zipslack.clamps import clamped_feet
from zipslack.cloths import Cloth
from zipslack.costs import distance, lower_bound, zip_costs
from zipslack.errors import InvalidState
from zipslack.windings import is_admissible

NO_ZIPS = Cloth((("line", 4, ()), ("ring", 3, ())))
# Four bound zips between two rings: to get ahead by 250 teeth takes 2000 moves.
FAR_ROWS = (("ring", 24, ((0, 0), (1, 0), (2, 0), (3, 0))), ("ring", 23, ((0, 1), (1, 1), (2, 1), (3, 1))))
FAR = Cloth(FAR_ROWS, (("parallel", 1),) * 4)
FAR_START = tuple((4 * number, 4 * number, 1) for number in range(4))
FAR_GOAL = tuple((10 + 4 * number, 20 + 4 * number, 1) for number in range(4))
# One pair more, and so one move more.
FARTHER_GOAL = FAR_GOAL[:3] + ((22, 32, 2),)


def isolated(before, span):
    """For all places and numbers of pairs of one zip, its moves from before pairs at place 0, nothing else around."""

    def reached(entry):
        low0, low1, count = entry
        found = [(low0 - 1, low1 - 1, count + 1), (low0, low1, count + 1)]
        if count > 0:
            found += [(low0 + 1, low1 + 1, count - 1), (low0, low1, count - 1)]
        else:
            found += [(low0 + step, low1, 0) for step in (-1, 1)] + [(low0, low1 + step, 0) for step in (-1, 1)]
        return [(a, b, count) for a, b, count in found if abs(a) <= span and abs(b) <= span and count <= span]

    return moves_from(None, (0, 0, before), reached)


def sweep_cloths():
    cloths = [NO_ZIPS, B, C]
    for direction in DIRECTIONS:
        for minimum in (0, 1, 2):
            cloths.extend(two_rows(sort0, 2, sort1, 3, direction, minimum) for sort0 in SORTS for sort1 in SORTS)
            cloths.extend(one_row(sort, 4, direction, minimum) for sort in SORTS)
    cloths.extend(random_cloth(seed, 3, 3) for seed in range(700, 745))
    cloths.extend(random_cloth(seed, 2, 4, most_minimum=1) for seed in range(745, 770))
    return [cloth for cloth in cloths if 0 < len(states_of(cloth)) < 600]


def sweep(pairs=60):
    """Pairs of states of small cloths."""
    for cloth in sweep_cloths():
        states = states_of(cloth)
        step = 1 + len(states) ** 2 // pairs
        for start, goal in list(itertools.product(states, repeat=2))[::step]:
            yield cloth, start, goal


class CostsCase(unittest.TestCase):
    def assert_costs(self, cloth, start, goal, expected):
        """The costs of each zip for some windings."""
        for winding, found in expected.items():
            with self.subTest(str(cloth), start=start, goal=goal, winding=winding):
                self.assertEqual(zip_costs(cloth, start, goal, winding), found)
                self.assertEqual(direct_costs(cloth, start, goal, winding), found)


class ExamplesTest(unittest.TestCase):
    def test_the_examples(self):
        self.assertEqual(zip_costs(B, P, Q, (1, 0)), (6,))
        self.assertEqual(lower_bound(B, P, Q, (1, 0)), 6)
        self.assertEqual(distance(A, S, ((0, 0, 2),)), (5, [(0, 0)]))
        self.assertEqual(distance(B, P, Q), (6, [(1, 0)]))
        self.assertEqual(distance(B, P, R), (None, []))

    def test_arguments_by_name(self):
        self.assertEqual(zip_costs(winding=(1, 0), goal=Q, start=P, cloth=B), (6,))
        self.assertEqual(lower_bound(winding=(1, 0), goal=Q, start=P, cloth=B), 6)
        self.assertEqual(distance(goal=Q, start=P, cloth=B), (6, [(1, 0)]))

    def test_functions_are_defined_in_their_file(self):
        for name in ("zip_costs", "lower_bound", "distance"):
            self.assertEqual(getattr(costs, name).__module__, "zipslack.costs")

    def test_kinds_of_values(self):
        self.assertIs(type(zip_costs(B, P, Q, (1, 0))), tuple)
        self.assertIs(type(lower_bound(B, P, Q, (1, 0))), int)
        found = distance(B, P, Q)
        self.assertEqual([type(found), type(found[0]), type(found[1]), type(found[1][0])], [tuple, int, list, tuple])


class ZipCostsTest(CostsCase):
    def test_lines(self):
        cloth = two_rows("line", 9, "line", 9)
        still = (0, 0)
        self.assert_costs(cloth, ((2, 3, 2),), ((2, 3, 4),), {still: (2,)})
        self.assert_costs(cloth, ((2, 3, 2),), ((1, 2, 4),), {still: (2,)})
        self.assert_costs(cloth, ((2, 3, 2),), ((4, 5, 2),), {still: (4,)})
        self.assert_costs(cloth, ((2, 3, 2),), ((6, 7, 1),), {still: (7,)})
        self.assert_costs(cloth, ((2, 3, 0),), ((5, 1, 0),), {still: (5,)})
        self.assert_costs(cloth, ((2, 3, 2),), ((2, 4, 2),), {still: (5,)})
        self.assert_costs(cloth, ((0, 3, 2),), ((6, 8, 1),), {still: (10,)})

    def test_reversed_zips_on_lines(self):
        cloth = two_rows("line", 9, "line", 9, "reversed")
        still = (0, 0)
        self.assert_costs(cloth, ((2, 3, 2),), ((2, 1, 4),), {still: (2,)})
        self.assert_costs(cloth, ((2, 3, 2),), ((2, 3, 4),), {still: (8,)})
        self.assert_costs(cloth, ((2, 3, 2),), ((4, 1, 2),), {still: (4,)})
        self.assert_costs(cloth, ((2, 3, 0),), ((5, 1, 0),), {still: (5,)})
        self.assert_costs(cloth, ((2, 3, 2),), ((3, 3, 2),), {still: (5,)})

    def test_one_ring(self):
        cloth = two_rows("ring", 5, "line", 9)
        self.assert_costs(cloth, ((2, 3, 1),), ((2, 3, 1),), {
            (0, 0): (0,), (1, 0): (7,), (-1, 0): (7,), (2, 0): (12,), (-3, 0): (17,), (100, 0): (502,),
        })
        self.assert_costs(cloth, ((2, 1, 1),), ((2, 6, 1),), {(0, 0): (7,), (1, 0): (10,), (-1, 0): (12,)})
        cloth = two_rows("line", 9, "ring", 5, "reversed")
        self.assert_costs(cloth, ((2, 3, 1),), ((2, 3, 1),), {(0, 0): (0,), (0, 1): (7,), (0, -2): (12,)})
        self.assert_costs(cloth, ((1, 3, 1),), ((6, 3, 1),), {(0, 0): (7,), (0, 1): (12,), (0, -1): (10,)})

    def test_two_rings(self):
        cloth = two_rows("ring", 3, "ring", 4)
        state = ((1, 2, 2),)
        self.assert_costs(cloth, state, state, {
            (0, 0): (0,), (1, 0): (7,), (0, 1): (8,), (1, 1): (7,), (4, 3): (24,), (-4, -3): (24,), (4, -3): (28,),
        })
        cloth = two_rows("ring", 3, "ring", 4, "reversed")
        self.assert_costs(cloth, state, state, {(4, -3): (24,), (-4, 3): (24,), (4, 3): (28,), (0, 0): (0,)})

    def test_twice_on_the_same_ring(self):
        state = ((0, 3, 1),)
        self.assert_costs(one_row("ring", 6), state, state, {(0,): (0,), (1,): (12,), (-2,): (24,)})
        self.assert_costs(one_row("ring", 6), state, ((1, 5, 1),), {(0,): (3,), (1,): (15,), (-1,): (9,)})
        self.assert_costs(one_row("ring", 6, "reversed"), state, state, {(0,): (0,), (1,): (14,), (-2,): (26,)})

    def test_many_turns(self):
        cloth = two_rows("ring", 24, "ring", 23, "parallel", 1)
        state = ((0, 0, 1),)
        for turns in (1, -1, 50, -50, 10 ** 9, 10 ** 28):
            self.assert_costs(cloth, state, state, {(23 * turns, 24 * turns): (2 * 23 * 24 * abs(turns),)})

    def test_equal_states_cost_nothing(self):
        for cloth in sweep_cloths():
            for state in states_of(cloth)[::11]:
                winding = (0,) * len(cloth.rows())
                self.assertEqual(zip_costs(cloth, state, state, winding), (0,) * len(cloth))
                self.assertEqual(lower_bound(cloth, state, state, winding), 0)

    def test_against_the_words(self):
        for cloth, start, goal in sweep(20):
            for winding in list(windings_of(cloth, 4))[::3]:
                self.assertEqual(zip_costs(cloth, start, goal, winding), direct_costs(cloth, start, goal, winding))
        for cloth, start, goal in large_cases(11, 300):
            for winding in itertools.islice(windings_of(cloth, 7), 0, 225, 13):
                self.assertEqual(zip_costs(cloth, start, goal, winding), direct_costs(cloth, start, goal, winding))

    def test_against_the_moves_of_one_zip_alone(self):
        # On two long lines, a zip has all the room that it needs.
        cloths = {direction: two_rows("line", 24, "line", 24, direction) for direction in DIRECTIONS}
        for before in range(4):
            counts = isolated(before, 10)
            for x, y, after in itertools.product(range(-4, 5), range(-4, 5), range(4)):
                start, goal = ((10, 10, before),), ((10 + x, 10 + y, after),)
                self.assertEqual(zip_costs(cloths["parallel"], start, goal, (0, 0)), (counts[(x, y, after)],))
                turned = ((10 + x, 10 + before - after - y, after),)
                self.assertEqual(zip_costs(cloths["reversed"], start, turned, (0, 0)), (counts[(x, y, after)],))


class LowerBoundTest(unittest.TestCase):
    def test_a_zip_on_two_rings(self):
        cloth = two_rows("ring", 3, "ring", 4)
        state = ((1, 2, 2),)
        expected = {(0, 0): 0, (1, 1): 0, (-1, 1): 0, (2, 0): 1, (0, 2): 1, (2, 2): 1, (3, 0): 4, (0, 3): 5, (0, -3): 5,
                    (4, 3): 7, (-4, -3): 7, (3, 4): 9, (-12, 2): 31}
        for direction in DIRECTIONS:
            cloth = two_rows("ring", 3, "ring", 4, direction)
            for winding, bound in expected.items():
                self.assertEqual(lower_bound(cloth, state, state, winding), bound, winding)
                self.assertEqual(lower_bound(cloth, ((0, 0, 0),), ((2, 3, 1),), winding), bound, winding)

    def test_any_other_zip_counts_with_its_cost(self):
        for cloth, start, goal, winding in (
                (two_rows("ring", 5, "line", 9), ((2, 1, 1),), ((2, 6, 1),), (2, 0)),
                (two_rows("line", 9, "ring", 5, "reversed"), ((1, 3, 1),), ((6, 3, 1),), (0, -3)),
                (one_row("ring", 6), ((0, 3, 1),), ((1, 5, 1),), (-1,)),
                (one_row("ring", 6, "reversed"), ((0, 3, 1),), ((1, 5, 1),), (4,)),
                (A, S, ((3, 0, 1),), (0, 0))):
            self.assertGreater(lower_bound(cloth, start, goal, winding), 0)
            self.assertEqual(lower_bound(cloth, start, goal, winding), sum(zip_costs(cloth, start, goal, winding)))

    def test_both_sorts_of_zips(self):
        rows = (("ring", 3, ((0, 0), (1, 0))), ("ring", 4, ((0, 1),)), ("line", 6, ((1, 1),)))
        cloth = Cloth(rows, (("parallel", 0), ("parallel", 0)))
        start, goal = ((0, 0, 1), (1, 0, 1)), ((0, 2, 1), (2, 3, 1))
        bound = lower_bound(cloth, start, goal, (3, 1, 0))
        self.assertEqual(bound, 4 + zip_costs(cloth, start, goal, (3, 1, 0))[1])

    def test_against_the_words(self):
        for cloth, start, goal in sweep(20):
            for winding in list(windings_of(cloth, 4))[::3]:
                bound = lower_bound(cloth, start, goal, winding)
                self.assertEqual(bound, direct_bound(cloth, start, goal, winding))
                self.assertLessEqual(bound, sum(zip_costs(cloth, start, goal, winding)))
        for cloth, start, goal in large_cases(12, 300):
            for winding in itertools.islice(windings_of(cloth, 7), 0, 225, 13):
                bound = lower_bound(cloth, start, goal, winding)
                self.assertEqual(bound, direct_bound(cloth, start, goal, winding))
                self.assertLessEqual(bound, sum(zip_costs(cloth, start, goal, winding)))


class DistanceTest(unittest.TestCase):
    def test_no_zips(self):
        self.assertEqual(distance(NO_ZIPS, (), ()), (0, [(0, 0)]))

    def test_from_a_state_to_itself(self):
        for cloth in sweep_cloths():
            for state in states_of(cloth)[::5]:
                self.assertEqual(distance(cloth, state, state), (0, [(0,) * len(cloth.rows())]))

    def test_several_windings(self):
        cloth = two_rows("ring", 4, "line", 3)
        self.assertEqual(distance(cloth, ((0, 0, 0),), ((2, 0, 0),)), (2, [(-1, 0), (0, 0)]))
        cloth = two_rows("ring", 4, "ring", 2)
        self.assertEqual(distance(cloth, ((0, 0, 0),), ((2, 1, 0),)), (3, [(-1, -1), (-1, 0), (0, -1), (0, 0)]))
        # A foot that goes once around the ring of one tooth is where it was.
        cloth = two_rows("ring", 1, "line", 3)
        self.assertEqual(distance(cloth, ((0, 0, 1),), ((0, 1, 1),)), (2, [(1, 0)]))
        self.assertEqual(distance(cloth, ((0, 0, 1),), ((0, 2, 1),)), (3, [(1, 0)]))

    def test_against_a_search(self):
        pairs = bound = clamped = unreachable = 0
        for cloth in sweep_cloths():
            states = states_of(cloth)
            for start in states[::1 + len(states) // 3]:
                counts = moves_from(cloth, start, neighbours(cloth))
                for goal in states[::1 + len(states) // 40]:
                    self.assertEqual(distance(cloth, start, goal)[0], counts.get(goal), (str(cloth), start, goal))
                    pairs += 1
                    unreachable += goal not in counts
                bound += any(minimum > 0 for direction, minimum in cloth.zips())
                clamped += clamped_feet(cloth, start) != []
        self.assertGreater(min(bound, clamped, unreachable), 20)
        self.assertGreater(pairs, 2000)

    def test_all_windings_of_least_total(self):
        several = 0
        for cloth, start, goal in sweep(40):
            count, windings = distance(cloth, start, goal)
            near = [winding for winding in windings_of(cloth, 3) if is_admissible(cloth, start, goal, winding)]
            if count is None:
                self.assertEqual((windings, near), ([], []))
                continue
            totals = {winding: sum(zip_costs(cloth, start, goal, winding)) for winding in near}
            self.assertGreaterEqual(min(totals.values(), default=count), count)
            inside = [winding for winding in windings if max(map(abs, winding)) <= 3]
            self.assertEqual(inside, [winding for winding in near if totals[winding] == count])
            self.assertEqual(windings, sorted(set(windings)))
            for winding in windings:
                self.assertIs(is_admissible(cloth, start, goal, winding), True)
                self.assertEqual(sum(zip_costs(cloth, start, goal, winding)), count)
            several += len(windings) > 1
        self.assertGreater(several, 20)

    def test_symmetric_with_negated_windings(self):
        for cloth, start, goal in itertools.chain(sweep(30), large_cases(13, 300)):
            count, windings = distance(cloth, start, goal)
            negated = sorted(tuple(-turns for turns in winding) for winding in windings)
            self.assertEqual(distance(cloth, goal, start), (count, negated), (str(cloth), start, goal))

    def test_the_triangle_inequality(self):
        tried = 0
        for cloth, first, second, third in large_cases(14, 400, states=3):
            direct = distance(cloth, first, third)[0]
            parts = [distance(cloth, first, second)[0], distance(cloth, second, third)[0]]
            if None not in parts:
                tried += 1
                self.assertLessEqual(direct, sum(parts), (str(cloth), first, second, third))
            elif direct is not None:
                self.assertEqual(parts, [None, None])
        self.assertGreater(tried, 100)

    def test_far_apart_on_bound_rings(self):
        for direction in DIRECTIONS:
            cloth = two_rows("ring", 24, "ring", 23, direction, 1)
            start = ((0, 0, 1),)
            for goal in (((0, 12, 1),), ((12, 0, 1),), ((23, 22, 5),), ((7, 11, 24 - 1),)):
                found = {}
                for turns in range(-60, 61):
                    for other in range(-60, 61):
                        if is_offset_kept(cloth, start, goal, (turns, other)):
                            found[(turns, other)] = sum(direct_costs(cloth, start, goal, (turns, other)))
                least = min(found.values())
                expected = sorted(winding for winding, total in found.items() if total == least)
                self.assertEqual(distance(cloth, start, goal), (least, expected))

    def test_far_apart_on_free_rings(self):
        source = random.Random(15)
        for teeth0, teeth1 in ((1, 24), (2, 23), (24, 24), (1, 1), (3, 5)):
            rows = (("ring", teeth0, ((0, 0), (1, 0))), ("ring", teeth1, ((0, 1), (2, 0), (1, 1))),
                    ("line", 24, ((2, 1),)))
            cloth = Cloth(rows, (("parallel", 0), ("reversed", 0), (source.choice(DIRECTIONS), 0)))
            start = ((0, 0, 0), (0, 2 % teeth1, 0), (0, 0, 0))
            goal = ((teeth0 - 1, teeth1 - 1, 0), (teeth0, 2 * teeth1 - 1, 0), (teeth1 - 1, 24, 0))
            totals = {winding: sum(direct_costs(cloth, start, goal, winding))
                      for winding in itertools.product(range(-60, 61), range(-60, 61), (0,))}
            least = min(totals.values())
            expected = sorted(winding for winding, total in totals.items() if total == least)
            self.assertEqual(distance(cloth, start, goal), (least, expected), (teeth0, teeth1))

    def test_exactly_2000_moves_and_more(self):
        self.assertEqual(distance(FAR, FAR_START, FAR_GOAL), (2000, [(10, 10)]))
        self.assertEqual(distance(FAR, FAR_GOAL, FAR_START), (2000, [(-10, -10)]))
        self.assertEqual(distance(FAR, FAR_START, FARTHER_GOAL), (2001, [(10, 10)]))

    def test_clamped_feet(self):
        self.assertEqual(distance(C, T, T), (0, [(0, 0)]))
        for goal in (((1, 0, 2),), ((0, 1, 2),), ((1, 1, 2),)):
            self.assertEqual(distance(C, T, goal), (None, []))

    def test_a_returned_list_belongs_to_the_caller(self):
        distance(B, P, Q)[1].clear()
        self.assertEqual(distance(B, P, Q), (6, [(1, 0)]))
        distance(B, P, R)[1].append((0, 0))
        self.assertEqual(distance(B, P, R), (None, []))


def is_offset_kept(cloth, start, goal, winding):
    """Whether the only zip, which is bound, has the same offset in both states."""
    (low0, low1, count), (goal0, goal1, after) = start[0], goal[0]
    goal0 += winding[0] * cloth.rows()[0][1]
    goal1 += winding[1] * cloth.rows()[1][1]
    if cloth.zips()[0][0] == "parallel":
        return low1 - low0 == goal1 - goal0
    return low0 + low1 + count == goal0 + goal1 + after


class InvalidStateTest(unittest.TestCase):
    def test_values_that_are_no_state(self):
        for value in ODD_VALUES + (list(P), ((0, 0, 0),), ((0, False, 1),), ((3, 0, 1),), P + P, P[0], U):
            with self.subTest(value):
                for start, goal in ((value, P), (P, value), (value, value)):
                    with self.assertRaises(InvalidState):
                        zip_costs(B, start, goal, (0, 0))
                    with self.assertRaises(InvalidState):
                        lower_bound(B, start, goal, (0, 0))
                    with self.assertRaises(InvalidState):
                        distance(B, start, goal)

    def test_states_of_another_cloth(self):
        for start, goal in ((S, U), (U, S)):
            with self.assertRaises(InvalidState):
                distance(A, start, goal)
            with self.assertRaises(InvalidState):
                distance(D, start, goal)


if __name__ == "__main__":
    unittest.main()
