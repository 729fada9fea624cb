import itertools
import unittest

from tests.directly import is_on_a_cycle
from tests.samples import A, B, C, D, ODD_VALUES, P, S, T, U
from tests.worlds import DIRECTIONS, SORTS, one_row, random_cloth, states_of, two_rows
from zipslack import clamps
from zipslack.clamps import blocking_cycle, clamped_feet, is_blocking_cycle
from zipslack.cloths import Cloth
from zipslack.errors import InvalidState, NotClamped
from zipslack.moves import apply_move, legal_moves
from zipslack.states import gaps

NO_ZIPS = Cloth((("line", 4, ()), ("ring", 3, ())))


def crossed(direction0="parallel", direction1="parallel", minimum0=1, minimum1=1, sort="line", teeth=6):
    """Two zips between two rows, in one order on the first row and in the other order on the second."""
    rows = ((sort, teeth, ((0, 0), (1, 0))), (sort, teeth, ((1, 1), (0, 1))))
    return Cloth(rows, ((direction0, minimum0), (direction1, minimum1)))


# A tight zip and one foot of an open zip fill a ring.
FULL = Cloth(
    (("ring", 2, ((0, 0), (1, 0))), ("line", 4, ((0, 1), (1, 1)))),
    (("parallel", 2), ("parallel", 0)),
)
FULL_STATE = ((0, 0, 2), (2, 3, 0))
# The same with a reversed zip, and with side 1 on the ring.
FULL_REVERSED = Cloth(FULL.rows(), (("reversed", 2), ("parallel", 0)))
FULL_OTHER = Cloth(
    (("ring", 2, ((0, 1), (1, 1))), ("line", 4, ((0, 0), (1, 0)))),
    (("reversed", 2), ("parallel", 0)),
)
FULL_OTHER_STATE = ((0, 0, 2), (3, 2, 0))
# Two tight zips cross, with a foot of an open zip between them on each row.
HELD = Cloth(
    (("line", 4, ((0, 0), (2, 0), (1, 0))), ("line", 4, ((1, 1), (2, 1), (0, 1)))),
    (("parallel", 1), ("parallel", 1), ("reversed", 0)),
)
HELD_STATE = ((1, 2, 1), (2, 1, 1), (2, 2, 0))


def mover_feet(cloth, mover):
    """The feet that a mover moves, each with its direction along its row."""
    if len(mover) == 3:
        return {(mover[0], mover[1]): mover[2]}
    opposite = cloth.zips()[mover[0]][0] == "reversed"
    return {(mover[0], 0): mover[1], (mover[0], 1): -mover[1] if opposite else mover[1]}


def movers_of(cloth, state):
    found = []
    for number, (direction, minimum) in enumerate(cloth.zips()):
        if minimum > 0 and state[number][2] == minimum:
            found.extend([(number, 1), (number, -1)])
        if state[number][2] == 0:
            found.extend((number, side, step) for side in (0, 1) for step in (1, -1))
    return found


def is_waiting(cloth, state, mover, other):
    """Whether a mover waits for another one, from the gaps of the state."""
    moved = mover_feet(cloth, other)
    for (number, side), step in mover_feet(cloth, mover).items():
        index = cloth.row_of(number, side)
        sort, teeth, feet = cloth.rows()[index]
        for at, gap in enumerate(gaps(cloth, state)[index]):
            if sort == "line":
                below, above = (None,) + feet, feet + (None,)
            else:
                below, above = feet, feet[1:] + feet[:1]
            here, there = (below[at], above[at]) if step == 1 else (above[at], below[at])
            if here == (number, side) and gap == 0 and moved.get(there) == step:
                return True
    return False


def waits_of(cloth, state):
    movers = movers_of(cloth, state)
    return {mover: [other for other in movers if is_waiting(cloth, state, mover, other)] for mover in movers}


def sweep():
    """Small cloths with all of their states."""
    cloths = [NO_ZIPS, FULL, FULL_REVERSED, FULL_OTHER]
    for direction in DIRECTIONS:
        for minimum in (1, 2):
            cloths.extend(two_rows(sort0, 2, sort1, 3, direction, minimum) for sort0 in SORTS for sort1 in SORTS)
            cloths.extend(one_row(sort, 4, direction, minimum) for sort in SORTS)
        cloths.extend(crossed(direction, other, sort=sort, teeth=3) for other in DIRECTIONS for sort in SORTS)
    cloths.extend(random_cloth(seed, 3, 3) for seed in range(200, 240))
    for cloth in cloths:
        states = states_of(cloth)
        if len(states) < 600:
            for state in states:
                yield cloth, state


class ClampsCase(unittest.TestCase):
    def assert_clamped(self, cloth, state, expected):
        self.assertEqual(clamped_feet(cloth, state), expected)
        for number in range(len(cloth)):
            for side in (0, 1):
                if (number, side) in expected:
                    cycle = blocking_cycle(cloth, state, (number, side))
                    self.assertIs(is_blocking_cycle(cloth, state, cycle), True)
                    self.assertTrue(any((number, side) in mover_feet(cloth, mover) for mover in cycle))
                else:
                    self.assert_not_clamped(cloth, state, (number, side))

    def assert_not_clamped(self, cloth, state, foot):
        with self.assertRaises(NotClamped) as caught:
            blocking_cycle(cloth, state, foot)
        self.assertIs(caught.exception.foot, foot)


class ExamplesTest(ClampsCase):
    def test_the_examples(self):
        self.assertEqual(clamped_feet(C, T), [(0, 0), (0, 1)])
        self.assertIs(is_blocking_cycle(C, T, blocking_cycle(C, T, (0, 1))), True)
        self.assert_not_clamped(C, T, (1, 0))
        self.assertIs(is_blocking_cycle(C, T, [(0, 1), (0, 1)]), False)

    def test_arguments_by_name(self):
        self.assertEqual(clamped_feet(state=T, cloth=C), [(0, 0), (0, 1)])
        self.assertEqual(blocking_cycle(foot=(0, 1), state=T, cloth=C), blocking_cycle(C, T, (0, 1)))
        self.assertIs(is_blocking_cycle(value=[(0, 1)], state=T, cloth=C), True)

    def test_functions_are_defined_in_their_file(self):
        for name in ("clamped_feet", "blocking_cycle", "is_blocking_cycle"):
            self.assertEqual(getattr(clamps, name).__module__, "zipslack.clamps")


class ClampedFeetTest(ClampsCase):
    def test_no_zips(self):
        self.assert_clamped(NO_ZIPS, (), [])

    def test_a_tight_zip_fills_a_ring(self):
        for direction in DIRECTIONS:
            cloth = two_rows("ring", 2, "line", 4, direction, 2)
            self.assert_clamped(cloth, ((0, 1, 2),), [(0, 0), (0, 1)])
            self.assert_clamped(two_rows("ring", 3, "line", 4, direction, 2), ((0, 1, 2),), [])
            self.assert_clamped(two_rows("line", 4, "ring", 2, direction, 2), ((1, 1, 2),), [(0, 0), (0, 1)])

    def test_a_joined_zip_that_is_not_tight(self):
        for minimum in (0, 1):
            self.assert_clamped(two_rows("ring", 2, "line", 4, "parallel", minimum), ((0, 1, 2),), [])
            self.assert_clamped(one_row("line", 4, "parallel", minimum), ((0, 2, 2),), [])
            self.assert_clamped(crossed(minimum0=minimum), ((1, 4, 2), (3, 3, 1)), [])

    def test_the_end_of_a_line_clamps_nothing(self):
        self.assert_clamped(two_rows("line", 2, "line", 2, "parallel", 2), ((0, 0, 2),), [])
        self.assert_clamped(A, ((0, 0, 0),), [])
        self.assert_clamped(D, ((0, 0, 0), (0, 0, 0)), [])

    def test_a_parallel_zip_waits_for_itself_on_a_line(self):
        self.assert_clamped(one_row("line", 6, "parallel", 2), ((1, 3, 2),), [(0, 0), (0, 1)])
        self.assert_clamped(one_row("line", 6, "parallel", 2), ((1, 4, 2),), [])
        self.assert_clamped(one_row("line", 6, "parallel", 2, ((0, 1), (0, 0))), ((3, 1, 2),), [(0, 0), (0, 1)])

    def test_a_parallel_zip_waits_for_itself_on_a_ring(self):
        self.assert_clamped(one_row("ring", 6, "parallel", 2), ((1, 3, 2),), [(0, 0), (0, 1)])
        self.assert_clamped(one_row("ring", 6, "parallel", 2), ((1, 5, 2),), [(0, 0), (0, 1)])
        self.assert_clamped(one_row("ring", 6, "parallel", 2), ((1, 4, 2),), [])

    def test_a_reversed_zip_folded_onto_itself(self):
        self.assert_clamped(one_row("line", 6, "reversed", 2), ((1, 3, 2),), [])
        self.assert_clamped(one_row("ring", 6, "reversed", 2), ((1, 3, 2),), [])
        self.assert_clamped(one_row("ring", 4, "reversed", 2), ((1, 3, 2),), [(0, 0), (0, 1)])
        self.assertIs(is_blocking_cycle(one_row("ring", 4, "reversed", 2), ((1, 3, 2),), [(0, 1), (0, -1)]), True)

    def test_zips_that_cross(self):
        everything = [(0, 0), (0, 1), (1, 0), (1, 1)]
        for sort in SORTS:
            self.assert_clamped(crossed(sort=sort), ((2, 3, 1), (3, 2, 1)), everything)
            self.assert_clamped(crossed(sort=sort), ((2, 3, 1), (4, 2, 1)), [])
            self.assert_clamped(crossed(sort=sort), ((2, 4, 1), (3, 2, 1)), [])
            # Of two reversed zips, one foot of each moves the other way, and the order is no longer crossed.
            self.assert_clamped(crossed("reversed", "reversed", sort=sort), ((2, 3, 1), (3, 2, 1)), [])
            self.assert_clamped(crossed("parallel", "reversed", sort=sort), ((2, 3, 1), (3, 2, 1)), [])

    def test_reversed_zips_side_by_side(self):
        rows = (("line", 6, ((0, 0), (1, 0))), ("line", 6, ((0, 1), (1, 1))))
        cloth = Cloth(rows, (("reversed", 1), ("reversed", 1)))
        self.assert_clamped(cloth, ((2, 2, 1), (3, 3, 1)), [(0, 0), (0, 1), (1, 0), (1, 1)])
        self.assert_clamped(cloth, ((2, 2, 1), (3, 4, 1)), [])
        straight = Cloth(rows, (("parallel", 1), ("parallel", 1)))
        self.assert_clamped(straight, ((2, 2, 1), (3, 3, 1)), [])

    def test_feet_of_open_zips(self):
        self.assert_clamped(FULL, FULL_STATE, [(0, 0), (0, 1), (1, 0)])
        self.assert_clamped(FULL, ((0, 0, 2), (2, 2, 0)), [(0, 0), (0, 1), (1, 0)])
        self.assert_clamped(HELD, HELD_STATE, [(0, 0), (0, 1), (1, 0), (1, 1), (2, 0), (2, 1)])
        self.assert_clamped(HELD, ((1, 2, 1), (3, 1, 1), (2, 2, 0)), [])

    def test_an_open_zip_between_zips_that_are_not_tight(self):
        loose = Cloth(HELD.rows(), (("parallel", 0), ("parallel", 1), ("reversed", 0)))
        self.assert_clamped(loose, HELD_STATE, [])
        self.assertEqual(clamped_feet(B, P), [])

    def test_only_some_zips_of_a_cloth(self):
        rows = (("ring", 1, ((1, 0),)), ("line", 5, ((0, 0), (1, 1), (0, 1))))
        cloth = Cloth(rows, (("reversed", 0), ("parallel", 1)))
        self.assert_clamped(cloth, ((1, 3, 0), (0, 2, 1)), [(1, 0), (1, 1)])

    def test_a_returned_list_belongs_to_the_caller(self):
        clamped_feet(C, T).clear()
        self.assertEqual(clamped_feet(C, T), [(0, 0), (0, 1)])
        blocking_cycle(FULL, FULL_STATE, (0, 0)).reverse()
        blocking_cycle(FULL, FULL_STATE, (0, 0)).clear()
        self.assertTrue(is_blocking_cycle(FULL, FULL_STATE, blocking_cycle(FULL, FULL_STATE, (0, 0))))


class EveryStateTest(ClampsCase):
    """Over all states of small cloths."""

    def test_against_the_gaps(self):
        clamped = 0
        for cloth, state in sweep():
            waits = waits_of(cloth, state)
            on_cycles = [mover for mover in waits if is_on_a_cycle(waits, mover)]
            expected = sorted({foot for mover in on_cycles for foot in mover_feet(cloth, mover)})
            self.assert_clamped(cloth, state, expected)
            for foot in expected:
                cycle = blocking_cycle(cloth, state, foot)
                for at in range(len(cycle)):
                    self.assertIn(cycle[at], waits[cycle[at - 1]], (str(cloth), state, foot))
                self.assertEqual(len(cycle), len(set(cycle)))
            clamped += len(expected)
        self.assertGreater(clamped, 100)

    def test_no_clamped_foot_moves(self):
        for cloth, state in sweep():
            feet = clamped_feet(cloth, state)
            for move in legal_moves(cloth, state):
                # A close or an open move moves both feet, so none of them is clamped.
                moved = [move[1:3]] if move[0] == "slip" else [(move[1], 0), (move[1], 1)]
                self.assertEqual([foot for foot in moved if foot in feet], [], (str(cloth), state, move))
                # The same feet are clamped afterwards, so none of them moves later.
                self.assertEqual(clamped_feet(cloth, apply_move(cloth, state, move)), feet)

    def test_every_list_of_movers(self):
        states = [
            (C, T), (FULL, FULL_STATE), (FULL_REVERSED, FULL_STATE), (FULL_OTHER, FULL_OTHER_STATE), (A, S), (B, P),
            (crossed(), ((2, 3, 1), (3, 2, 1))), (one_row("ring", 4, "reversed", 2), ((1, 3, 2),)), (A, ((0, 0, 0),)),
        ]
        for cloth, state in states:
            waits = waits_of(cloth, state)
            for size in (1, 2, 3):
                for cycle in itertools.product(list(waits) + [(0, 0), (5, 1), (0, 2, 1)], repeat=size):
                    expected = len(set(cycle)) == size and all(
                        cycle[at] in waits.get(cycle[at - 1], []) for at in range(size))
                    self.assertIs(is_blocking_cycle(cloth, state, list(cycle)), expected, (str(cloth), state, cycle))


class CyclesTest(ClampsCase):
    CROSSED_STATE = ((2, 3, 1), (3, 2, 1))

    def test_known_cycles(self):
        for cycle in ([(0, 1), (1, 1)], [(1, 1), (0, 1)], [(0, -1), (1, -1)], [(1, -1), (0, -1)]):
            self.assertIs(is_blocking_cycle(crossed(), self.CROSSED_STATE, cycle), True)
        for cycle in ([(0, 1)], [(0, -1)]):
            self.assertIs(is_blocking_cycle(C, T, cycle), True)
        for cycle in ([(0, 1), (1, 0, 1)], [(1, 0, -1), (0, -1)]):
            self.assertIs(is_blocking_cycle(FULL, FULL_STATE, cycle), True)
            self.assertIs(is_blocking_cycle(FULL_REVERSED, FULL_STATE, cycle), True)
        # At side 1 of a reversed zip, the mover that moves foot 0 up moves the foot down.
        for cycle in ([(0, -1), (1, 1, 1)], [(1, 1, -1), (0, 1)]):
            self.assertIs(is_blocking_cycle(FULL_OTHER, FULL_OTHER_STATE, cycle), True)
        for cycle in ([(0, 1), (1, 1, 1)], [(1, 1, -1), (0, -1)]):
            self.assertIs(is_blocking_cycle(FULL_OTHER, FULL_OTHER_STATE, cycle), False)

    def test_a_long_cycle(self):
        up = [(0, 1), (2, 0, 1), (1, 1), (2, 1, 1)]
        down = [(0, -1), (2, 1, -1), (1, -1), (2, 0, -1)]
        for cycle in (up, down):
            for at in range(4):
                turned = cycle[at:] + cycle[:at]
                self.assertIs(is_blocking_cycle(HELD, HELD_STATE, turned), True)
                self.assertIs(is_blocking_cycle(HELD, HELD_STATE, turned[::-1]), False)
                self.assertIs(is_blocking_cycle(HELD, HELD_STATE, turned[1:]), False)
                self.assertIs(is_blocking_cycle(HELD, HELD_STATE, turned[:-1]), False)
                self.assertIs(is_blocking_cycle(HELD, HELD_STATE, turned + turned), False)
                self.assertIs(is_blocking_cycle(HELD, HELD_STATE, turned + turned[:1]), False)
        self.assertIs(is_blocking_cycle(HELD, HELD_STATE, up + down), False)

    def test_wrong_cycles(self):
        wrong = (
            [], [(0, 1)], [(1, 1)], [(0, 1), (1, -1)], [(0, 1), (1, 1), (0, 1), (1, 1)], [(0, 1), (0, 1)],
            [(0, 1), (1, 1), (0, -1), (1, -1)], [(0, 2), (1, 2)], [(0, 0), (1, 0)], [(0, 0, 1), (1, 0, 1)],
            ((0, 1), (1, 1)), [[0, 1], [1, 1]], [(0, 1), [1, 1]], [(0, 1, 1), (1, 1, 1)], [((0, 1), (1, 1))],
            [[(0, 1), (1, 1)]], {(0, 1): (1, 1)}, [(0, 1), (1, 1), None], [None, (0, 1), (1, 1)], "[(0, 1), (1, 1)]",
            [(0, True), (1, 1)], [(0, 1), (True, 1)], [(False, 1), (1, 1)], [(0, 1), (1, True)], [("0", 1), (1, 1)],
            [(2, 1)], [(-2, 1), (-1, 1)], [(10 ** 29, 1)], [()], [(0,)], [(0, 1), ()], (0, 1), [0, 1],
        )
        for value in wrong + ODD_VALUES + (crossed(),):
            with self.subTest(value):
                self.assertIs(is_blocking_cycle(crossed(), self.CROSSED_STATE, value), False)

    def test_booleans_and_lists_in_a_single_mover(self):
        for value in ([(0, True)], [(False, 1)], [[0, 1]], ((0, 1),), [(0, 1), True], [(0, -1), (0, 1)]):
            self.assertIs(is_blocking_cycle(C, T, value), False)
        for value in ([(0, 1), (1, False, 1)], [(0, 1), (True, 0, 1)], [(0, 1), (1, 0, True)], [(0, 1), [1, 0, 1]]):
            self.assertIs(is_blocking_cycle(FULL, FULL_STATE, value), False)

    def test_a_cycle_of_another_state(self):
        self.assertIs(is_blocking_cycle(crossed(), ((2, 3, 1), (4, 2, 1)), [(0, 1), (1, 1)]), False)
        self.assertIs(is_blocking_cycle(crossed(), ((1, 3, 2), (3, 2, 1)), [(0, 1), (1, 1)]), False)
        self.assertIs(is_blocking_cycle(NO_ZIPS, (), []), False)

    def test_the_value_stays(self):
        value = [(0, 1), [1, 1]]
        is_blocking_cycle(crossed(), self.CROSSED_STATE, value)
        self.assertEqual(value, [(0, 1), [1, 1]])

    def test_the_form_of_a_returned_cycle(self):
        for cloth, state in ((C, T), (FULL, FULL_STATE), (HELD, HELD_STATE)):
            for foot in clamped_feet(cloth, state):
                cycle = blocking_cycle(cloth, state, foot)
                self.assertIs(type(cycle), list)
                self.assertEqual({type(mover) for mover in cycle}, {tuple})
                self.assertEqual(cycle, blocking_cycle(cloth, state, foot))

    def test_values_that_are_no_clamped_foot(self):
        odd = ((0, True), (False, 0), (0, False), (False, True), (0, 2), (0, -1), (-1, 0), (1, 0), (1, 1), [0, 0], (0,),
               (0, 0, 0), (0, 1, 1), ("0", 0), (0, None), ((0, 0),), [(0, 0)], "0.0", (10 ** 29, 0), (0, [0]), ([0], 0))
        for value in odd + ODD_VALUES:
            with self.subTest(value):
                self.assert_not_clamped(C, T, value)
        self.assert_not_clamped(NO_ZIPS, (), (0, 0))


class InvalidStateTest(unittest.TestCase):
    def test_values_that_are_no_state(self):
        for value in ODD_VALUES + (list(T), ((0, 0, 1),), ((0, False, 2),), ((2, 0, 2),), T + T, T[0], U):
            with self.subTest(value):
                with self.assertRaises(InvalidState):
                    clamped_feet(C, value)
                for foot in ((0, 0), (1, 0), None, (0, True)):
                    with self.assertRaises(InvalidState):
                        blocking_cycle(C, value, foot)
                for cycle in ([(0, 1)], [], None, [(0, True)]):
                    with self.assertRaises(InvalidState):
                        is_blocking_cycle(C, value, cycle)


if __name__ == "__main__":
    unittest.main()
