"""The answers of the functions that are called most often, against a direct computation from the document's words."""

import itertools
import random
import unittest

from tests import directly
from tests.samples import ODD_VALUES
from tests.worlds import crowded_case, large_cases, random_cloth, random_state, states_of
from zipslack.clamps import blocking_cycle, clamped_feet, is_blocking_cycle
from zipslack.errors import IllegalMove, InvalidState
from zipslack.moves import apply_move, apply_moves, is_legal, legal_moves
from zipslack.states import gaps, is_state
from zipslack.windings import constraints, find_winding, is_admissible


def every_move(cloth):
    """Every move, and some values beside them."""
    numbers = range(-1, len(cloth) + 1)
    slides = [(name, number, end) for name in ("close", "open", "Open") for number in numbers for end in (-1, 0, 1, 2)]
    slips = [("slip", number, side, step) for number in numbers for side in (-1, 0, 1, 2) for step in (-2, -1, 0, 1, 2)]
    odd = [("close", 0, True), ("close", False, 1), ("open", 0, False), ("slip", 0, 0, True), ("slip", False, 1, 1),
           ["close", 0, 1], ("close", 0), ("slip", 0, 1), ("open", 0, 1, 1), ("slip", 0, 0, 1, 1), None, "close", ()]
    return slides + slips + odd


def altered_states(cloth, state):
    """A state, and values that differ from it in one place."""
    yield state
    yield list(state)
    yield state + ((0, 0, 0),)
    yield state[:-1] if state else None
    for number, entry in enumerate(state):
        others = [entry[:2], entry + (0,), list(entry), None, entry[:2] + (str(entry[2]),)]
        for at, part in enumerate(entry):
            teeth = cloth.rows()[cloth.row_of(number, at % 2)][1]
            parts = (part + 1, part - 1, part + teeth, part - teeth, -part, bool(part), None, 10 ** 29)
            others.extend(entry[:at] + (other,) + entry[at + 1:] for other in parts)
        for other in others:
            yield state[:number] + (other,) + state[number + 1:]


def altered_cycles(cloth, cycle, known):
    """A cycle, and values that differ from it in one place."""
    for at in range(len(cycle)):
        yield cycle[at:] + cycle[:at]
        yield cycle[:at] + cycle[at + 1:]
        yield cycle[:at] + cycle[at:at + 1] + cycle[at:]
        mover = cycle[at]
        for other in (*known, list(mover), mover + (1,), mover[:-1], mover[:-1] + (mover[-1] == 1,), None,
                      (bool(mover[0]),) + mover[1:], (mover[0] + 1,) + mover[1:], (-1,) + mover[1:], (mover,)):
            yield cycle[:at] + [other] + cycle[at + 1:]
            yield cycle[:at] + [other] + cycle[at:]
    yield cycle[::-1]
    yield tuple(cycle)
    yield []


def small_cases():
    for seed in range(500, 530):
        cloth = random_cloth(seed, 3, 3)
        states = states_of(cloth)
        if len(states) < 500:
            yield from ((cloth, state) for state in states[::5])


def bound_cases(seed, count):
    """Crowded cloths with bound zips and some gaps, so that many feet are clamped."""
    for number in range(count):
        source = random.Random(f"{seed} {number}")
        yield crowded_case(source, source.choice(((0,), (0, 0, 1), (0, 0, 0, 2))), bound=True)


class StatesTest(unittest.TestCase):
    def test_altered_states(self):
        judged = {True: 0, False: 0}
        cases = itertools.chain(small_cases(), large_cases(91, 250, states=1), bound_cases(92, 150))
        for cloth, state in cases:
            self.assertIs(directly.is_state(cloth, state), True)
            for value in altered_states(cloth, state):
                expected = directly.is_state(cloth, value)
                self.assertIs(is_state(cloth, value), expected, (str(cloth), value))
                judged[expected] += 1
                if expected:
                    found = tuple(tuple(directly.gaps_of_row(row, value)) for row in cloth.rows())
                    self.assertEqual(gaps(cloth, value), found)
                else:
                    with self.assertRaises(InvalidState):
                        is_legal(cloth, value, ("close", 0, 0))
        self.assertGreater(min(judged.values()), 3000)


class MovesTest(unittest.TestCase):
    def assert_moves(self, cloth, state):
        """Every move is judged as its gaps say. Returns the states that are reached."""
        reached = []
        for move in every_move(cloth):
            legal = directly.is_legal(cloth, state, move)
            self.assertIs(is_legal(cloth, state, move), legal, (str(cloth), state, move))
            if legal:
                reached.append(directly.apply_move(cloth, state, move))
                self.assertEqual(apply_move(cloth, state, move), reached[-1], (str(cloth), state, move))
            else:
                with self.assertRaises(IllegalMove) as caught:
                    apply_move(cloth, state, move)
                self.assertEqual(caught.exception.position, 0)
        self.assertEqual(legal_moves(cloth, state), directly.legal_moves(cloth, state), (str(cloth), state))
        return reached

    def test_small_cloths(self):
        for cloth, state in small_cases():
            self.assert_moves(cloth, state)

    def test_histories(self):
        """Some steps in large and in crowded cloths, with every move asked at each of them."""
        steps = 0
        cases = itertools.chain(large_cases(93, 60, states=1), bound_cases(94, 60))
        for seed, (cloth, state) in enumerate(cases):
            source = random.Random(seed)
            start, way = state, []
            for step in range(12):
                self.assert_moves(cloth, state)
                found = directly.legal_moves(cloth, state)
                if found:
                    way.append(source.choice(found))
                    state = directly.apply_move(cloth, state, way[-1])
                    self.assertTrue(directly.is_state(cloth, state))
                    steps += 1
            self.assertEqual(apply_moves(cloth, start, way), state)
            for at in range(len(way) + 1):
                with self.assertRaises(IllegalMove) as caught:
                    apply_moves(cloth, start, way[:at] + [None] + way[at:])
                self.assertEqual(caught.exception.position, at)
        self.assertGreater(steps, 800)


class ClampsTest(unittest.TestCase):
    def test_clamped_feet(self):
        clamped = 0
        for cloth, state in itertools.chain(small_cases(), large_cases(95, 200, states=1), bound_cases(96, 400)):
            expected = directly.clamped_feet(cloth, state)
            self.assertEqual(clamped_feet(cloth, state), expected, (str(cloth), state))
            clamped += len(expected)
        self.assertGreater(clamped, 500)

    def test_altered_cycles(self):
        judged = {True: 0, False: 0}
        for cloth, state in itertools.chain(bound_cases(97, 120), large_cases(98, 30, states=1)):
            known = list(directly.movers(cloth, state))
            for foot in directly.clamped_feet(cloth, state):
                cycle = blocking_cycle(cloth, state, foot)
                self.assertIs(directly.is_blocking_cycle(cloth, state, cycle), True)
                for value in altered_cycles(cloth, cycle, known[::3]):
                    expected = directly.is_blocking_cycle(cloth, state, value)
                    self.assertIs(is_blocking_cycle(cloth, state, value), expected, (str(cloth), state, value))
                    judged[expected] += 1
            for value in [*itertools.permutations(known[:6], 2), *itertools.permutations(known[-5:], 3)][::3]:
                expected = directly.is_blocking_cycle(cloth, state, list(value))
                self.assertIs(is_blocking_cycle(cloth, state, list(value)), expected, (str(cloth), state, value))
            for value in ODD_VALUES:
                self.assertIs(is_blocking_cycle(cloth, state, value), False)
        self.assertGreater(min(judged.values()), 500)


class WindingsTest(unittest.TestCase):
    def cases(self):
        """Cloths with two of their states each."""
        yield from large_cases(99, 250)
        for seed, (cloth, start) in enumerate(bound_cases(100, 250)):
            source = random.Random(seed)
            yield cloth, start, start
            goal = random_state(cloth, source)
            if goal is not None:
                yield cloth, start, goal
                yield cloth, goal, start

    def test_constraints(self):
        named = {"foot": 0, "offset": 0}
        for cloth, start, goal in self.cases():
            expected = directly.constraints(cloth, start, goal)
            self.assertEqual(constraints(cloth, start, goal), expected, (str(cloth), start, goal))
            for name, coefficients, value in expected:
                named[name[0]] += 1
        self.assertGreater(min(named.values()), 300)

    def test_admissible_windings(self):
        judged = {True: 0, False: 0}
        for cloth, start, goal in self.cases():
            still = (0,) * len(cloth.rows())
            for winding in {still, find_winding(cloth, start, goal) or still}:
                near = [winding, winding[:-1], winding + (0,), list(winding), None, 0, tuple(map(str, winding))]
                for at, turns in enumerate(winding):
                    for other in (turns + 1, turns - 1, -turns, bool(turns), turns + 10 ** 29, None):
                        near.append(winding[:at] + (other,) + winding[at + 1:])
                for value in near:
                    expected = directly.is_admissible(cloth, start, goal, value)
                    self.assertIs(is_admissible(cloth, start, goal, value), expected, (str(cloth), start, goal, value))
                    judged[expected] += 1
        self.assertGreater(min(judged.values()), 500)


if __name__ == "__main__":
    unittest.main()
