import unittest

from tests.samples import A, B, C, D, ODD_VALUES, P, S, T, U
from tests.worlds import DIRECTIONS, SORTS, one_row, random_cloth, states_of, two_rows
from zipslack import moves
from zipslack.cloths import Cloth
from zipslack.errors import IllegalMove, InvalidState
from zipslack.moves import apply_move, apply_moves, is_legal, legal_moves
from zipslack.states import is_state, pairs

# Two feet on a ring, each zip with a line of its own.
TWO = Cloth(
    (("ring", 4, ((0, 0), (1, 1))), ("line", 5, ((0, 1),)), ("line", 5, ((1, 0),))),
    (("parallel", 0), ("reversed", 0)),
)
NO_ZIPS = Cloth((("line", 4, ()), ("ring", 3, ())))


def every_move(cloth):
    """Every value that has the form of a move, and some for numbers beyond all bounds."""
    numbers = range(-1, len(cloth) + 1)
    slides = [(name, number, end) for name in ("close", "open") for number in numbers for end in (-1, 0, 1, 2)]
    slips = [("slip", number, side, step) for number in numbers for side in (-1, 0, 1, 2) for step in (-2, -1, 0, 1, 2)]
    return slides + slips


def inverse(move):
    if move[0] == "slip":
        return move[:3] + (-move[3],)
    return ({"close": "open", "open": "close"}[move[0]],) + move[1:]


def outcome(cloth, state, move):
    """The state after a move, from trying it: an illegal move leads to a placement that is no state."""
    name, number, half = move[:3]
    if not 0 <= number < len(cloth) or half not in (0, 1):
        return None
    placement = [list(entry) for entry in state]
    entry = placement[number]
    if name == "slip":
        if entry[2] > 0 or move[3] not in (1, -1):
            return None
        entry[half] += move[3]
    else:
        change = 1 if name == "close" else -1
        entry[2] += change
        entry[0] -= change if half == 0 else 0
        entry[1] -= change if (half == 0) == (cloth.zips()[number][0] == "parallel") else 0
    for sort, teeth, feet in cloth.rows():
        if sort == "ring" and feet:
            first = placement[feet[0][0]][feet[0][1]]
            for other, side in feet:
                placement[other][side] += first % teeth - first
    reached = tuple(tuple(entry) for entry in placement)
    return reached if is_state(cloth, reached) else None


def small_cloths():
    """Cloths with one zip in every arrangement, and some with several zips."""
    cloths = [NO_ZIPS, Cloth((("ring", 2, ((1, 0), (0, 0))), ("ring", 2, ((1, 1), (0, 1)))),
                             (("parallel", 0), ("reversed", 1)))]
    for direction in DIRECTIONS:
        for minimum in (0, 1):
            cloths.extend(two_rows(sort0, 2, sort1, 3, direction, minimum) for sort0 in SORTS for sort1 in SORTS)
            cloths.extend(one_row(sort, 4, direction, minimum) for sort in SORTS)
            cloths.append(one_row("ring", 3, direction, minimum, ((0, 1), (0, 0))))
    cloths.extend(random_cloth(seed, 3, 3) for seed in range(12))
    return [cloth for cloth in cloths if len(states_of(cloth)) < 700]


class MovesCase(unittest.TestCase):
    def assert_moves(self, cloth, state, expected):
        """Each move leads to its state; a move without a state is illegal."""
        for move, reached in expected.items():
            with self.subTest(cloth=str(cloth), state=state, move=move):
                self.assertIs(is_legal(cloth, state, move), reached is not None)
                self.assertIs(move in legal_moves(cloth, state), reached is not None)
                if reached is None:
                    self.assert_illegal(0, apply_move, cloth, state, move)
                else:
                    self.assertEqual(apply_move(cloth, state, move), reached)

    def assert_illegal(self, position, function, *arguments):
        with self.assertRaises(IllegalMove) as caught:
            function(*arguments)
        self.assertEqual(caught.exception.position, position)


class ExamplesTest(MovesCase):
    def test_the_examples(self):
        self.assertIs(is_legal(A, S, ("close", 0, 0)), False)
        self.assertEqual(apply_move(A, S, ("close", 0, 1)), ((0, 1, 3),))
        way = [("open", 0, 1), ("open", 0, 1), ("slip", 0, 1, 1)]
        self.assertEqual(apply_moves(A, S, way), ((0, 2, 0),))
        self.assert_illegal(1, apply_moves, A, S, [("open", 0, 1), ("slip", 0, 1, 1)])
        self.assertEqual(legal_moves(A, S), [("close", 0, 1), ("open", 0, 0), ("open", 0, 1)])

    def test_arguments_by_name(self):
        move = ("close", 0, 1)
        self.assertIs(is_legal(move=move, state=S, cloth=A), True)
        self.assertEqual(apply_move(move=move, state=S, cloth=A), ((0, 1, 3),))
        self.assertEqual(apply_moves(moves=[move], state=S, cloth=A), ((0, 1, 3),))
        self.assertEqual(legal_moves(state=S, cloth=A), legal_moves(A, S))

    def test_functions_are_defined_in_their_file(self):
        for name in ("is_legal", "apply_move", "apply_moves", "legal_moves"):
            self.assertEqual(getattr(moves, name).__module__, "zipslack.moves")


class EachMoveTest(MovesCase):
    def test_sliders_on_lines(self):
        self.assert_moves(two_rows("line", 6, "line", 7), ((2, 3, 2),), {
            ("close", 0, 0): ((1, 2, 3),), ("close", 0, 1): ((2, 3, 3),),
            ("open", 0, 0): ((3, 4, 1),), ("open", 0, 1): ((2, 3, 1),),
        })
        self.assert_moves(two_rows("line", 6, "line", 7, "reversed"), ((2, 3, 2),), {
            ("close", 0, 0): ((1, 3, 3),), ("close", 0, 1): ((2, 2, 3),),
            ("open", 0, 0): ((3, 3, 1),), ("open", 0, 1): ((2, 4, 1),),
        })

    def test_sliders_on_rings(self):
        self.assert_moves(two_rows("ring", 6, "ring", 7), ((2, 3, 2),), {
            ("close", 0, 0): ((1, 2, 3),), ("close", 0, 1): ((2, 3, 3),),
            ("open", 0, 0): ((3, 4, 1),), ("open", 0, 1): ((2, 3, 1),),
        })
        self.assert_moves(two_rows("ring", 6, "ring", 7, "reversed"), ((2, 3, 2),), {
            ("close", 0, 0): ((1, 3, 3),), ("close", 0, 1): ((2, 2, 3),),
            ("open", 0, 0): ((3, 3, 1),), ("open", 0, 1): ((2, 4, 1),),
        })

    def test_starting_and_ending_a_zip(self):
        for sort in SORTS:
            self.assert_moves(two_rows(sort, 6, sort, 7), ((2, 3, 0),), {
                ("close", 0, 0): ((1, 2, 1),), ("close", 0, 1): ((2, 3, 1),),
                ("open", 0, 0): None, ("open", 0, 1): None,
            })
            self.assert_moves(two_rows(sort, 6, sort, 7), ((2, 3, 1),), {
                ("open", 0, 0): ((3, 4, 0),), ("open", 0, 1): ((2, 3, 0),),
            })
            self.assert_moves(two_rows(sort, 6, sort, 7, "reversed"), ((2, 3, 0),), {
                ("close", 0, 0): ((1, 3, 1),), ("close", 0, 1): ((2, 2, 1),),
                ("open", 0, 0): None, ("open", 0, 1): None,
            })
            self.assert_moves(two_rows(sort, 6, sort, 7, "reversed"), ((2, 3, 1),), {
                ("open", 0, 0): ((3, 3, 0),), ("open", 0, 1): ((2, 4, 0),),
            })

    def test_slips(self):
        for sort in SORTS:
            for direction in DIRECTIONS:
                self.assert_moves(two_rows(sort, 6, sort, 7, direction), ((2, 3, 0),), {
                    ("slip", 0, 0, 1): ((3, 3, 0),), ("slip", 0, 0, -1): ((1, 3, 0),),
                    ("slip", 0, 1, 1): ((2, 4, 0),), ("slip", 0, 1, -1): ((2, 2, 0),),
                })

    def test_the_other_zips_stay(self):
        self.assert_moves(D, ((0, 1, 1), (3, 3, 0)), {
            ("close", 1, 0): ((0, 1, 1), (2, 2, 1)), ("slip", 1, 1, 1): ((0, 1, 1), (3, 4, 0)),
            ("close", 0, 1): ((0, 1, 2), (3, 3, 0)), ("open", 0, 0): ((1, 2, 0), (3, 3, 0)),
        })

    def test_the_new_pair_is_at_the_end(self):
        for direction in DIRECTIONS:
            cloth = two_rows("line", 6, "ring", 7, direction)
            state = ((2, 3, 2),)
            low = set(pairs(cloth, apply_move(cloth, state, ("close", 0, 0)))) - set(pairs(cloth, state))
            high = set(pairs(cloth, apply_move(cloth, state, ("close", 0, 1)))) - set(pairs(cloth, state))
            ends = (2, 5) if direction == "parallel" else (5, 2)
            self.assertEqual((low, high), ({((0, 1), (1, ends[0]))}, {((0, 4), (1, ends[1]))}))


class IllegalMovesTest(MovesCase):
    def test_close_without_a_gap(self):
        parallel, other = two_rows("line", 4, "line", 5), two_rows("line", 4, "line", 5, "reversed")
        low, high = ("close", 0, 0), ("close", 0, 1)
        self.assert_moves(parallel, ((1, 1, 1),), {low: ((0, 0, 2),), high: ((1, 1, 2),)})
        self.assert_moves(parallel, ((0, 1, 1),), {low: None, high: ((0, 1, 2),)})
        self.assert_moves(parallel, ((1, 0, 1),), {low: None, high: ((1, 0, 2),)})
        self.assert_moves(parallel, ((0, 0, 1),), {low: None, high: ((0, 0, 2),)})
        self.assert_moves(parallel, ((2, 3, 1),), {low: ((1, 2, 2),), high: ((2, 3, 2),)})
        self.assert_moves(parallel, ((3, 3, 1),), {low: ((2, 2, 2),), high: None})
        self.assert_moves(parallel, ((2, 4, 1),), {low: ((1, 3, 2),), high: None})
        self.assert_moves(other, ((1, 3, 1),), {low: ((0, 3, 2),), high: ((1, 2, 2),)})
        self.assert_moves(other, ((0, 3, 1),), {low: None, high: ((0, 2, 2),)})
        self.assert_moves(other, ((1, 4, 1),), {low: None, high: ((1, 3, 2),)})
        self.assert_moves(other, ((2, 1, 1),), {low: ((1, 1, 2),), high: ((2, 0, 2),)})
        self.assert_moves(other, ((3, 1, 1),), {low: ((2, 1, 2),), high: None})
        self.assert_moves(other, ((2, 0, 1),), {low: ((1, 0, 2),), high: None})

    def test_close_beside_another_foot(self):
        self.assert_moves(D, ((1, 1, 0), (1, 2, 0)), {
            ("close", 0, 0): ((0, 0, 1), (1, 2, 0)), ("close", 0, 1): None,
            ("close", 1, 0): None, ("close", 1, 1): ((1, 1, 0), (1, 2, 1)),
        })
        self.assert_moves(D, ((1, 1, 0), (2, 2, 0)), {
            ("close", 0, 1): ((1, 1, 1), (2, 2, 0)), ("close", 1, 0): ((1, 1, 0), (1, 1, 1)),
        })

    def test_close_on_a_full_ring(self):
        for direction in DIRECTIONS:
            full = two_rows("ring", 3, "line", 5, direction)
            self.assert_moves(full, ((1, 1, 3),), {("close", 0, 0): None, ("close", 0, 1): None})
            self.assertEqual([move for move in legal_moves(full, ((1, 1, 2),)) if move[0] == "close"],
                             [("close", 0, 0), ("close", 0, 1)])

    def test_both_gaps_the_same_gap(self):
        folded = one_row("line", 6, "reversed")
        self.assert_moves(folded, ((1, 2, 1),), {("close", 0, 1): None})
        self.assert_moves(folded, ((1, 3, 1),), {("close", 0, 1): None})
        self.assert_moves(folded, ((1, 4, 1),), {("close", 0, 1): ((1, 3, 2),)})
        self.assert_moves(folded, ((1, 2, 0),), {("close", 0, 1): None})
        self.assert_moves(folded, ((1, 3, 0),), {("close", 0, 1): ((1, 2, 1),)})
        # On a line the other slider is beside two gaps, each with one tooth here.
        self.assert_moves(folded, ((1, 4, 1),), {("close", 0, 0): ((0, 4, 2),)})
        turned = one_row("line", 6, "reversed", feet=((0, 1), (0, 0)))
        self.assert_moves(turned, ((3, 1, 1),), {("close", 0, 0): None})
        self.assert_moves(turned, ((4, 1, 1),), {("close", 0, 0): ((3, 1, 2),)})

    def test_both_gaps_the_same_gap_of_a_ring(self):
        self.assert_moves(one_row("ring", 4, "reversed"), ((0, 2, 1),), {("close", 0, 0): None, ("close", 0, 1): None})
        self.assert_moves(one_row("ring", 4, "reversed"), ((1, 2, 1),), {
            ("close", 0, 0): ((0, 2, 2),), ("close", 0, 1): None,
        })
        self.assert_moves(one_row("ring", 4, "reversed"), ((1, 4, 1),), {
            ("close", 0, 0): None, ("close", 0, 1): ((1, 3, 2),),
        })

    def test_two_gaps_with_one_tooth_each(self):
        self.assert_moves(one_row("ring", 4), ((0, 2, 1),), {
            ("close", 0, 0): ((3, 5, 2),), ("close", 0, 1): ((0, 2, 2),),
        })
        self.assert_moves(one_row("line", 4), ((0, 2, 1),), {("close", 0, 0): None, ("close", 0, 1): ((0, 2, 2),)})

    def test_open_at_the_minimum(self):
        for direction in DIRECTIONS:
            for minimum in (1, 2, 3):
                cloth = two_rows("line", 6, "ring", 6, direction, minimum)
                for end in (0, 1):
                    self.assertIs(is_legal(cloth, ((1, 1, minimum),), ("open", 0, end)), False)
                    self.assertIs(is_legal(cloth, ((1, 1, minimum + 1),), ("open", 0, end)), True)
                    self.assert_illegal(0, apply_move, cloth, ((1, 1, minimum),), ("open", 0, end))

    def test_open_without_pairs(self):
        self.assert_moves(A, ((1, 1, 0),), {("open", 0, 0): None, ("open", 0, 1): None})
        self.assert_moves(A, ((1, 1, 1),), {("open", 0, 0): ((2, 2, 0),), ("open", 0, 1): ((1, 1, 0),)})

    def test_slip_of_a_joined_zip(self):
        slips = [("slip", 0, side, step) for side in (0, 1) for step in (-1, 1)]
        self.assert_moves(A, ((1, 1, 1),), {move: None for move in slips})
        self.assertEqual([move for move in legal_moves(A, ((1, 1, 0),)) if move[0] == "slip"], sorted(slips))

    def test_slip_without_a_gap(self):
        self.assert_moves(A, ((0, 5, 0),), {
            ("slip", 0, 0, -1): None, ("slip", 0, 0, 1): ((1, 5, 0),),
            ("slip", 0, 1, 1): None, ("slip", 0, 1, -1): ((0, 4, 0),),
        })
        self.assert_moves(D, ((1, 0, 0), (1, 0, 0)), {
            ("slip", 0, 0, 1): None, ("slip", 1, 0, -1): None,
            ("slip", 0, 0, -1): ((0, 0, 0), (1, 0, 0)), ("slip", 1, 0, 1): ((1, 0, 0), (2, 0, 0)),
        })
        self.assert_moves(D, ((1, 0, 0), (2, 0, 0)), {
            ("slip", 0, 0, 1): ((2, 0, 0), (2, 0, 0)), ("slip", 1, 0, -1): ((1, 0, 0), (1, 0, 0)),
        })


class RingShiftTest(MovesCase):
    def test_one_foot(self):
        cloth = two_rows("ring", 4, "ring", 5)
        self.assert_moves(cloth, ((0, 0, 1),), {("close", 0, 0): ((3, 4, 2),), ("open", 0, 0): ((1, 1, 0),)})
        self.assert_moves(cloth, ((3, 4, 2),), {("open", 0, 0): ((0, 0, 1),), ("open", 0, 1): ((3, 4, 1),)})
        self.assert_moves(cloth, ((0, 4, 0),), {("slip", 0, 0, -1): ((3, 4, 0),), ("slip", 0, 1, 1): ((0, 0, 0),)})
        self.assert_moves(cloth, ((3, 0, 0),), {("slip", 0, 0, 1): ((0, 0, 0),), ("slip", 0, 1, -1): ((3, 4, 0),)})

    def test_a_ring_of_one_tooth(self):
        cloth = two_rows("ring", 1, "ring", 1)
        state = ((0, 0, 0),)
        for move in (("slip", 0, 0, 1), ("slip", 0, 0, -1), ("slip", 0, 1, 1), ("slip", 0, 1, -1)):
            self.assertEqual(apply_move(cloth, state, move), state)
        self.assertEqual(apply_move(cloth, state, ("close", 0, 0)), ((0, 0, 1),))
        self.assertEqual(apply_move(cloth, ((0, 0, 1),), ("open", 0, 0)), state)

    def test_all_feet_are_shifted_upwards(self):
        self.assert_moves(TWO, ((0, 2, 0), (1, 3, 0)), {("slip", 0, 0, -1): ((3, 2, 0), (1, 7, 0))})
        self.assert_moves(TWO, ((0, 2, 1), (1, 3, 0)), {("close", 0, 0): ((3, 1, 2), (1, 7, 0))})

    def test_all_feet_are_shifted_downwards(self):
        self.assert_moves(TWO, ((3, 2, 0), (1, 7, 0)), {("slip", 0, 0, 1): ((0, 2, 0), (1, 3, 0))})
        self.assert_moves(TWO, ((3, 1, 2), (1, 7, 0)), {("open", 0, 0): ((0, 2, 1), (1, 3, 0))})

    def test_only_the_first_foot_counts(self):
        self.assert_moves(TWO, ((3, 2, 0), (1, 4, 0)), {
            ("slip", 1, 1, -1): ((3, 2, 0), (1, 3, 0)), ("slip", 1, 1, 1): ((3, 2, 0), (1, 5, 0)),
        })
        self.assert_moves(TWO, ((0, 2, 0), (1, 3, 0)), {("slip", 1, 1, 1): ((0, 2, 0), (1, 4, 0))})

    def test_no_shift_on_a_line(self):
        self.assert_moves(A, ((0, 0, 0),), {("slip", 0, 0, -1): None})
        self.assert_moves(A, ((3, 0, 0),), {("slip", 0, 0, 1): ((4, 0, 0),)})


class EveryStateTest(unittest.TestCase):
    """Over all states of small cloths."""

    def test_the_legal_moves_and_where_they_lead(self):
        for cloth in small_cloths():
            tried = every_move(cloth)
            for state in states_of(cloth):
                expected = {move: outcome(cloth, state, move) for move in tried}
                legal = sorted(move for move in tried if expected[move] is not None)
                self.assertEqual(legal_moves(cloth, state), legal, (str(cloth), state))
                self.assertEqual(sorted(move for move in tried if is_legal(cloth, state, move)), legal)
                for move in legal:
                    self.assertEqual(apply_move(cloth, state, move), expected[move], (str(cloth), state, move))

    def test_each_move_can_be_taken_back(self):
        for cloth in small_cloths():
            for state in states_of(cloth):
                for move in legal_moves(cloth, state):
                    reached = apply_move(cloth, state, move)
                    self.assertTrue(is_state(cloth, reached), (str(cloth), state, move))
                    self.assertTrue(is_legal(cloth, reached, inverse(move)), (str(cloth), state, move))
                    self.assertEqual(apply_moves(cloth, state, [move, inverse(move)]), state)


class AnyValueTest(MovesCase):
    def variants(self, move):
        """Values that are almost this move."""
        yield from (list(move), move[:-1], move + (0,), move[1:], (move,), [move], " ".join(map(str, move)))
        for index in range(len(move)):
            for odd in ODD_VALUES + (2, -2, "1", (1,), [1], 10 ** 29, -10 ** 29, "CLOSE", "close ", "slide"):
                if type(odd) is not type(move[index]) or index == 0:
                    yield move[:index] + (odd,) + move[index + 1:]

    def odd_moves(self, cloth, state):
        yield from ODD_VALUES
        yield from ("close", "open", "slip", ("close",), ("close", 0), ("slip", 0, 0), ("close", 0, 0, 1), cloth)
        for move in legal_moves(cloth, state):
            yield from self.variants(move)

    def test_values_that_are_no_legal_move(self):
        for cloth, state in ((A, S), (A, ((1, 1, 1),)), (A, ((1, 1, 0),)), (B, P), (D, U), (NO_ZIPS, ())):
            for value in self.odd_moves(cloth, state):
                with self.subTest(state=state, value=value):
                    self.assertIs(is_legal(cloth, state, value), False)
                    self.assert_illegal(0, apply_move, cloth, state, value)
                    self.assert_illegal(0, apply_moves, cloth, state, [value])

    def test_booleans_are_no_integers(self):
        state = ((1, 1, 0),)
        for move in (("close", 0, 1), ("close", 0, 0), ("slip", 0, 1, 1), ("slip", 0, 0, -1)):
            self.assertIs(is_legal(A, state, move), True)
        for move in (("close", 0, True), ("close", False, 0), ("close", 0, False), ("close", False, 1),
                     ("slip", 0, True, 1), ("slip", 0, 1, True), ("slip", False, 1, 1), ("slip", 0, False, -1)):
            self.assertIs(is_legal(A, state, move), False)
        joined = ((1, 1, 1), (2, 2, 1))
        self.assertIs(is_legal(D, joined, ("open", 1, 1)), True)
        for move in (("open", True, 1), ("open", 1, True), ("open", True, True)):
            self.assertIs(is_legal(D, joined, move), False)

    def test_zips_that_do_not_exist(self):
        for number in (-1, 1, 2, -10 ** 29, 10 ** 29):
            for move in (("close", number, 1), ("open", number, 1), ("slip", number, 0, 1)):
                self.assertIs(is_legal(A, ((1, 1, 1),), move), False)
                self.assertIs(is_legal(A, ((1, 1, 0),), move), False)

    def test_a_cloth_without_zips_has_no_moves(self):
        self.assertEqual(legal_moves(NO_ZIPS, ()), [])
        self.assertEqual(apply_moves(NO_ZIPS, (), []), ())
        self.assertIs(is_legal(NO_ZIPS, (), ("close", 0, 0)), False)


class SequencesTest(MovesCase):
    def test_no_moves(self):
        self.assertEqual(apply_moves(A, S, []), S)

    def test_the_position_of_the_first_illegal_move(self):
        close, back = ("close", 0, 1), ("open", 0, 1)
        self.assertEqual(apply_moves(A, S, [close, close]), ((0, 1, 4),))
        self.assert_illegal(2, apply_moves, A, S, [close, close, close])
        self.assert_illegal(2, apply_moves, A, S, [close, close, None, close, close])
        self.assert_illegal(0, apply_moves, A, S, [[], close])
        self.assert_illegal(4, apply_moves, A, S, [close, back, back, back, back])
        self.assert_illegal(3, apply_moves, A, S, [close, back, close, ("close", 0, True)])

    def test_a_move_may_become_legal_on_the_way(self):
        self.assert_illegal(0, apply_moves, A, S, [("slip", 0, 0, 1)])
        self.assertEqual(apply_moves(A, S, [("open", 0, 0), ("open", 0, 0), ("slip", 0, 0, 1)]), ((3, 3, 0),))

    def test_a_zip_crawls_around_a_ring(self):
        way = [("close", 0, 1), ("open", 0, 0)] * 3
        self.assertEqual(apply_moves(B, P, way), ((0, 3, 1),))

    def test_the_arguments_stay(self):
        way = [("close", 0, 1), ["close", 0, 1]]
        self.assert_illegal(1, apply_moves, A, S, way)
        self.assertEqual(way, [("close", 0, 1), ["close", 0, 1]])
        odd = ["close", 0, 1]
        self.assertIs(is_legal(A, S, odd), False)
        self.assertEqual(odd, ["close", 0, 1])
        self.assertEqual(S, ((0, 1, 2),))

    def test_a_returned_list_belongs_to_the_caller(self):
        first = legal_moves(A, S)
        first.clear()
        self.assertEqual(legal_moves(A, S), [("close", 0, 1), ("open", 0, 0), ("open", 0, 1)])
        full = legal_moves(C, T)
        full.append(("close", 0, 0))
        self.assertEqual(legal_moves(C, T), [])


class InvalidStateTest(unittest.TestCase):
    def test_values_that_are_no_state(self):
        for value in ODD_VALUES + (list(S), ((0, 1, 5),), ((0, True, 1),), ((-1, 1, 1),), S + S, S[0], U):
            with self.subTest(value):
                for move in (("close", 0, 1), None, ("close", 0, True)):
                    with self.assertRaises(InvalidState):
                        is_legal(A, value, move)
                    with self.assertRaises(InvalidState):
                        apply_move(A, value, move)
                    with self.assertRaises(InvalidState):
                        apply_moves(A, value, [move])
                with self.assertRaises(InvalidState):
                    apply_moves(A, value, [])
                with self.assertRaises(InvalidState):
                    legal_moves(A, value)

    def test_a_state_below_the_minimum(self):
        with self.assertRaises(InvalidState):
            apply_move(B, ((0, 0, 0),), ("close", 0, 0))


if __name__ == "__main__":
    unittest.main()
