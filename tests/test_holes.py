import unittest

from tests.samples import A, B, D, ODD_VALUES, P, S, U
from tests.worlds import DIRECTIONS, SORTS, one_row, random_cloth, states_of, two_rows
from zipslack import holes as module
from zipslack.cloths import Cloth
from zipslack.errors import InvalidState, UnknownZip
from zipslack.holes import holes, opening_effect, slack
from zipslack.moves import apply_move, legal_moves

NO_ZIPS = Cloth((("line", 4, ()), ("ring", 3, ()), ("line", 1, ()), ("ring", 2, ())))


def corner(count, teeth):
    """Lines that meet in a corner, each joined with the next one."""
    rows = tuple(("line", teeth, ((index, 0), ((index - 1) % count, 1))) for index in range(count))
    return Cloth(rows, (("reversed", 0),) * count)


CORNER = corner(3, 6)
CORNER_STATE = ((1, 4, 1), (1, 3, 1), (0, 4, 1))
# Two lines joined twice, with a ring between the two zips.
TWICE = Cloth(
    (("line", 9, ((0, 0), (1, 0))), ("line", 9, ((0, 1), (1, 1)))),
    (("parallel", 0), ("parallel", 0)),
)
# A line with two rings, so that its only hole leads through both of them.
BEADS = Cloth(
    (("line", 12, ((0, 0), (1, 0))), ("ring", 4, ((0, 1),)), ("ring", 5, ((1, 1),))),
    (("parallel", 0), ("parallel", 0)),
)
BEADS_STATE = ((1, 0, 1), (4, 0, 1))


class Model:
    """The runs of a state and the ends of runs that each slider connects, found tooth by tooth."""

    def __init__(self, cloth, state):
        self.runs = []
        self.sliders = {}
        self.stops = []
        for index, (sort, teeth, feet) in enumerate(cloth.rows()):
            # For each tooth of the row the joined foot that occupies it, or None.
            taken = [None] * teeth
            for number, side in feet:
                for step in range(state[number][2]):
                    taken[(state[number][side] + step) % teeth] = (number, side)
            self.add_row(index, sort, teeth, taken, cloth, state)

    def add_row(self, index, sort, teeth, taken, cloth, state):
        starts = [at for at in range(teeth) if taken[at] is not None and self.is_high(state, taken[at], at, teeth)]
        if sort == "line":
            self.add_run((index, 0, self.free(taken, 0, teeth)), taken, sort, cloth, None)
        elif not starts:
            self.runs.append((index, 0, teeth))
            self.sliders[("seam", index)] = [((index, 0, teeth), "low"), ((index, 0, teeth), "high")]
        for last in starts:
            start = last + 1 if sort == "line" else (last + 1) % teeth
            size = self.free(taken, start, teeth) if sort == "line" else self.free_around(taken, start, teeth)
            self.add_run((index, start, size), taken, sort, cloth, taken[last])

    def is_high(self, state, foot, at, teeth):
        number, side = foot
        return (state[number][side] + state[number][2] - 1) % teeth == at % teeth

    def free(self, taken, start, teeth):
        size = 0
        while start + size < teeth and taken[start + size] is None:
            size += 1
        return size

    def free_around(self, taken, start, teeth):
        size = 0
        while taken[(start + size) % teeth] is None:
            size += 1
        return size

    def add_run(self, run, taken, sort, cloth, below):
        self.runs.append(run)
        end = run[1] + run[2]
        above = taken[end % len(taken)] if sort == "ring" or end < len(taken) else None
        self.add_end(run, "low", below, "high", cloth)
        self.add_end(run, "high", above, "low", cloth)

    def add_end(self, run, name, foot, at_foot, cloth):
        if foot is None:
            self.stops.append((run, name))
            return
        number, side = foot
        end = 0 if at_foot == "low" else 1
        if side == 1 and cloth.zips()[number][0] == "reversed":
            end = 1 - end
        self.sliders.setdefault((number, end), []).append((run, name))

    def neighbours(self, run):
        found = []
        for ends in self.sliders.values():
            for here, there in (ends, ends[::-1]):
                if here[0] == run:
                    found.append(there[0])
        return found


def sweep():
    """Small cloths with all of their states."""
    cloths = [NO_ZIPS]
    for direction in DIRECTIONS:
        cloths.extend(two_rows(sort0, 2, sort1, 3, direction) for sort0 in SORTS for sort1 in SORTS)
        cloths.extend(one_row(sort, 4, direction) for sort in SORTS)
    cloths.extend(random_cloth(seed, 3, 3, most_minimum=1) for seed in range(100, 125))
    for cloth in cloths:
        states = states_of(cloth)
        for state in states if len(states) < 900 else states[::97]:
            yield cloth, state


class ExamplesTest(unittest.TestCase):
    def test_the_examples(self):
        self.assertEqual(holes(A, S), [("path", ((0, 0, 0), (1, 0, 1))), ("path", ((0, 2, 2), (1, 3, 2)))])
        self.assertEqual(slack(A, S), [("imbalance", 1), ("imbalance", 0)])
        self.assertEqual(opening_effect(A, ((0, 1, 1),), 0), ("cross", 0, 1))
        with self.assertRaises(UnknownZip) as caught:
            opening_effect(A, S, 0)
        self.assertEqual(caught.exception.number, 0)

    def test_arguments_by_name(self):
        self.assertEqual(holes(state=S, cloth=A), holes(A, S))
        self.assertEqual(slack(state=S, cloth=A), slack(A, S))
        self.assertEqual(opening_effect(number=0, state=((0, 1, 1),), cloth=A), ("cross", 0, 1))

    def test_functions_are_defined_in_their_file(self):
        for name in ("holes", "slack", "opening_effect"):
            self.assertEqual(getattr(module, name).__module__, "zipslack.holes")


class HolesTest(unittest.TestCase):
    def test_rows_without_zips(self):
        self.assertEqual(holes(NO_ZIPS, ()), [
            ("path", ((0, 0, 4),)), ("path", ((2, 0, 1),)), ("ring", ((1, 0, 3),)), ("ring", ((3, 0, 2),)),
        ])

    def test_rows_with_open_zips_only(self):
        self.assertEqual(holes(D, U), [("path", ((0, 0, 3),)), ("path", ((1, 0, 5),)), ("path", ((2, 0, 5),))])
        self.assertEqual(holes(two_rows("ring", 4, "line", 2), ((3, 1, 0),)), [
            ("path", ((1, 0, 2),)), ("ring", ((0, 0, 4),)),
        ])

    def test_two_lines(self):
        self.assertEqual(holes(two_rows("line", 4, "line", 5), ((1, 1, 2),)), [
            ("path", ((0, 0, 1), (1, 0, 1))), ("path", ((0, 3, 1), (1, 3, 2))),
        ])
        self.assertEqual(holes(two_rows("line", 4, "line", 5, "reversed"), ((0, 1, 2),)), [
            ("path", ((0, 0, 0), (1, 3, 2))), ("path", ((0, 2, 2), (1, 0, 1))),
        ])

    def test_a_zip_over_whole_lines(self):
        self.assertEqual(holes(two_rows("line", 2, "line", 2), ((0, 0, 2),)), [
            ("path", ((0, 0, 0), (1, 0, 0))), ("path", ((0, 2, 0), (1, 2, 0))),
        ])

    def test_a_line_folded_onto_itself(self):
        self.assertEqual(holes(one_row("line", 7), ((1, 4, 2),)), [("path", ((0, 0, 1), (0, 3, 1), (0, 6, 1)))])
        self.assertEqual(holes(one_row("line", 7, "reversed"), ((1, 4, 2),)), [
            ("path", ((0, 0, 1), (0, 6, 1))), ("ring", ((0, 3, 1),)),
        ])

    def test_a_ring_folded_onto_itself(self):
        self.assertEqual(holes(one_row("ring", 7), ((6, 9, 2),)), [("ring", ((0, 1, 1), (0, 4, 2)))])
        self.assertEqual(holes(one_row("ring", 7, "reversed"), ((6, 9, 2),)), [
            ("ring", ((0, 1, 1),)), ("ring", ((0, 4, 2),)),
        ])

    def test_two_rings(self):
        for direction in DIRECTIONS:
            self.assertEqual(holes(two_rows("ring", 4, "ring", 5, direction), ((3, 4, 2),)), [
                ("ring", ((0, 1, 2), (1, 1, 3))),
            ])

    def test_a_ring_and_a_line(self):
        self.assertEqual(holes(B, P), [("path", ((1, 0, 0), (0, 1, 2), (1, 1, 4)))])
        self.assertEqual(holes(two_rows("line", 4, "ring", 3, "reversed"), ((2, 2, 1),)), [
            ("path", ((0, 0, 2), (1, 0, 2), (0, 3, 1))),
        ])

    def test_a_run_without_teeth_on_a_full_ring(self):
        self.assertEqual(holes(two_rows("ring", 3, "line", 3), ((2, 0, 3),)), [
            ("path", ((1, 0, 0), (0, 2, 0), (1, 3, 0))),
        ])

    def test_three_lines_around_a_corner(self):
        self.assertEqual(holes(CORNER, CORNER_STATE), [
            ("path", ((0, 0, 1), (1, 5, 1))),
            ("path", ((0, 5, 1), (2, 0, 0))),
            ("path", ((1, 0, 1), (2, 4, 2))),
            ("ring", ((0, 2, 2), (1, 2, 2), (2, 1, 2))),
        ])

    def test_four_lines_around_a_corner(self):
        found = holes(corner(4, 8), ((0, 4, 1), (0, 6, 1), (0, 7, 1), (0, 3, 1)))
        self.assertEqual(found[4:], [("ring", ((0, 1, 2), (1, 1, 3), (2, 1, 5), (3, 1, 6)))])
        self.assertEqual(found[0], ("path", ((0, 0, 0), (1, 5, 3))))

    def test_a_line_joined_with_two_rings(self):
        self.assertEqual(holes(BEADS, BEADS_STATE), [("path", ((0, 0, 1), (1, 1, 3), (0, 2, 2), (2, 1, 4), (0, 5, 7)))])

    def test_two_lines_joined_twice(self):
        self.assertEqual(holes(TWICE, ((1, 2, 1), (5, 4, 2))), [
            ("path", ((0, 0, 1), (1, 0, 2))),
            ("path", ((0, 7, 2), (1, 6, 3))),
            ("ring", ((0, 2, 3), (1, 3, 1))),
        ])

    def test_open_zips_change_nothing(self):
        rows = (("line", 4, ((1, 0), (0, 0), (1, 1))), ("line", 5, ((2, 0), (0, 1), (2, 1))))
        cloth = Cloth(rows, (("parallel", 0), ("reversed", 0), ("parallel", 0)))
        for places in ((0, 2, 0, 3), (0, 4, 1, 5), (0, 3, 1, 4)):
            state = (S[0], (places[0], places[1], 0), (places[2], places[3], 0))
            self.assertEqual(holes(cloth, state), holes(A, S))
            self.assertEqual(slack(cloth, state), slack(A, S))

    def test_a_returned_list_belongs_to_the_caller(self):
        first, second = holes(A, S), slack(A, S)
        first.clear()
        second[0] = ("imbalance", 7)
        self.assertEqual(len(holes(A, S)), 2)
        self.assertEqual(slack(A, S), [("imbalance", 1), ("imbalance", 0)])

    def test_the_form_of_holes(self):
        for cloth, state in ((A, S), (B, P), (NO_ZIPS, ()), (CORNER, CORNER_STATE)):
            found = holes(cloth, state)
            self.assertIs(type(found), list)
            for hole in found:
                self.assertEqual((type(hole), type(hole[1])), (tuple, tuple))
                self.assertEqual({type(run) for run in hole[1]}, {tuple})


class EveryStateTest(unittest.TestCase):
    """Over all states of small cloths, against runs that are found tooth by tooth."""

    def test_every_run_is_in_exactly_one_hole(self):
        for cloth, state in sweep():
            found = holes(cloth, state)
            runs = [run for kind, in_hole in found for run in in_hole]
            self.assertEqual(sorted(runs), sorted(Model(cloth, state).runs), (str(cloth), state))
            self.assertEqual(len(runs), len(set(runs)))

    def test_each_slider_connects_neighbours_of_one_hole(self):
        for cloth, state in sweep():
            model = Model(cloth, state)
            for kind, runs in holes(cloth, state):
                steps = list(zip(runs, runs[1:])) + ([(runs[-1], runs[0])] if kind == "ring" else [])
                expected = sorted(steps + [step[::-1] for step in steps])
                found = sorted((run, other) for run in runs for other in model.neighbours(run))
                self.assertEqual(found, expected, (str(cloth), state))

    def test_a_path_goes_from_one_end_to_the_other(self):
        for cloth, state in sweep():
            stopped = [run for run, end in Model(cloth, state).stops]
            for kind, runs in holes(cloth, state):
                ends = sorted(run for run in stopped if run in runs)
                self.assertEqual(ends, sorted([runs[0], runs[-1]]) if kind == "path" else [], (str(cloth), state))

    def test_the_order(self):
        for cloth, state in sweep():
            found = holes(cloth, state)
            self.assertEqual(found, sorted(found))
            for kind, runs in found:
                orders = [runs, runs[::-1]]
                if kind == "ring":
                    orders = [order[at:] + order[:at] for order in orders for at in range(len(order))]
                self.assertEqual(runs, min(orders), (str(cloth), state))

    def test_free_teeth(self):
        for cloth, state in sweep():
            free = sum(row[1] for row in cloth.rows()) - 2 * sum(entry[2] for entry in state)
            self.assertEqual(sum(run[2] for kind, runs in holes(cloth, state) for run in runs), free)


class SlackTest(unittest.TestCase):
    def test_paths(self):
        self.assertEqual(slack(two_rows("line", 4, "line", 5, "reversed"), S), [("imbalance", 2), ("imbalance", 1)])
        self.assertEqual(slack(one_row("line", 9), ((2, 5, 2),)), [("imbalance", 3)])
        self.assertEqual(slack(B, ((0, 1, 1),)), [("imbalance", 2)])
        for state in (BEADS_STATE, ((0, 0, 1), (4, 0, 1)), ((1, 0, 2), (4, 0, 1)), ((1, 0, 1), (4, 0, 4))):
            self.assertEqual(slack(BEADS, state), [("imbalance", 3)])

    def test_rings_with_an_even_number_of_runs(self):
        self.assertEqual(slack(two_rows("ring", 4, "ring", 7), ((3, 4, 2),)), [("imbalance", 3)])
        self.assertEqual(slack(two_rows("ring", 7, "ring", 4), ((3, 3, 2),)), [("imbalance", 3)])
        self.assertEqual(slack(TWICE, ((1, 2, 1), (5, 4, 2))), [("imbalance", 1), ("imbalance", 1), ("imbalance", 2)])

        self.assertEqual(slack(corner(4, 8), ((0, 4, 1), (0, 6, 1), (0, 7, 1), (0, 3, 1)))[4], ("imbalance", 2))
        self.assertEqual(slack(corner(4, 8), ((0, 7, 1), (0, 6, 1), (0, 4, 1), (0, 3, 1)))[4], ("imbalance", 2))

    def test_rings_with_an_odd_number_of_runs(self):
        self.assertEqual(slack(NO_ZIPS, ()), [("imbalance", 4), ("imbalance", 1), ("parity", 1), ("parity", 0)])
        self.assertEqual(slack(one_row("line", 7, "reversed"), ((1, 4, 2),)), [("imbalance", 0), ("parity", 1)])
        self.assertEqual(slack(one_row("line", 8, "reversed"), ((1, 5, 2),)), [("imbalance", 0), ("parity", 0)])
        self.assertEqual(slack(CORNER, CORNER_STATE),
                         [("imbalance", 0), ("imbalance", 1), ("imbalance", 1), ("parity", 0)])
        self.assertEqual(slack(CORNER, ((1, 4, 1), (1, 3, 1), (0, 5, 1)))[3], ("parity", 1))
        self.assertEqual(slack(corner(5, 8), ((0, 4, 1), (0, 6, 1), (0, 7, 1), (0, 2, 1), (0, 3, 1)))[5], ("parity", 1))
        self.assertEqual(slack(corner(5, 8), ((0, 4, 1), (0, 6, 1), (0, 7, 1), (0, 3, 1), (0, 3, 1)))[5], ("parity", 0))

    def test_slack_stays_under_most_moves(self):
        for cloth, state in sweep():
            before = sorted(slack(cloth, state))
            sizes = sorted(len(runs) for kind, runs in holes(cloth, state))
            for move in legal_moves(cloth, state):
                reached = apply_move(cloth, state, move)
                if move[0] == "slip" or min(state[move[1]][2], reached[move[1]][2]) > 0:
                    self.assertEqual(sorted(slack(cloth, reached)), before, (str(cloth), state, move))
                    self.assertEqual(sorted(len(runs) for kind, runs in holes(cloth, reached)), sizes)

    def test_each_hole_keeps_its_slack(self):
        before = slack(CORNER, CORNER_STATE)
        reached = apply_move(CORNER, CORNER_STATE, ("close", 0, 1))
        self.assertEqual(slack(CORNER, reached), before)
        self.assertEqual(slack(CORNER, apply_move(CORNER, reached, ("open", 0, 0))), before)

    def test_a_slip_changes_no_hole(self):
        for cloth, state in sweep():
            for move in legal_moves(cloth, state):
                if move[0] == "slip":
                    self.assertEqual(holes(cloth, apply_move(cloth, state, move)), holes(cloth, state))


class OpeningEffectTest(unittest.TestCase):
    def assert_effect(self, cloth, state, number, expected):
        self.assertEqual(opening_effect(cloth, state, number), expected)
        bound = Cloth(cloth.rows(), tuple((direction, 1) for direction, minimum in cloth.zips()))
        self.assertEqual(opening_effect(bound, state, number), expected)

    def test_cross(self):
        self.assert_effect(two_rows("line", 4, "line", 5, "reversed"), ((1, 1, 1),), 0, ("cross", 0, 1))

    def test_merge(self):
        self.assert_effect(one_row("line", 7, "reversed"), ((1, 4, 1),), 0, ("merge", 0, 1))
        self.assert_effect(one_row("ring", 7, "reversed"), ((1, 4, 1),), 0, ("merge", 0, 1))
        self.assert_effect(TWICE, ((0, 0, 1), (4, 4, 1)), 0, ("merge", 0, 2))
        self.assert_effect(TWICE, ((0, 0, 1), (4, 4, 1)), 1, ("merge", 1, 2))

    def test_split(self):
        self.assert_effect(two_rows("ring", 3, "line", 5), ((0, 1, 1),), 0, ("split", 0))
        for direction in DIRECTIONS:
            self.assert_effect(two_rows("ring", 3, "ring", 5, direction), ((0, 1, 1),), 0, ("split", 0))

    def test_reverse(self):
        self.assert_effect(one_row("line", 7), ((1, 4, 1),), 0, ("reverse", 0))
        self.assert_effect(one_row("ring", 7), ((1, 4, 1),), 0, ("reverse", 0))

    def test_indices_are_those_of_the_holes(self):
        rows = (("line", 2, ()), ("line", 5, ((0, 0), (0, 1))), ("ring", 4, ()))
        self.assert_effect(Cloth(rows, (("reversed", 0),)), ((1, 3, 1),), 0, ("merge", 1, 2))
        self.assert_effect(Cloth(rows, (("parallel", 0),)), ((1, 3, 1),), 0, ("reverse", 1))
        turned = (rows[2], rows[1], rows[0])
        self.assert_effect(Cloth(turned, (("reversed", 0),)), ((1, 3, 1),), 0, ("merge", 0, 3))
        self.assert_effect(Cloth(turned, (("parallel", 0),)), ((1, 3, 1),), 0, ("reverse", 0))

    def assert_change(self, effect, before, after):
        """The number of holes that are gone and new, and their kinds."""
        gone = [kind for kind, runs in before if (kind, runs) not in after]
        new = [kind for kind, runs in after if (kind, runs) not in before]
        numbers = {"merge": (2, 1), "cross": (2, 2), "split": (1, 2), "reverse": (1, 1)}
        self.assertEqual((len(gone), len(new)), numbers[effect[0]])
        self.assertEqual([index for index, hole in enumerate(before) if hole not in after], list(effect[1:]))
        if effect[0] == "cross":
            self.assertEqual((gone, new), (["path"] * 2, ["path"] * 2))

    def test_what_happens_in_every_state(self):
        for cloth, state in sweep():
            bare = Cloth(cloth.rows(), tuple((direction, 0) for direction, minimum in cloth.zips()))
            for number, (low0, low1, count) in enumerate(state):
                if count == 1:
                    with self.subTest(cloth=str(cloth), state=state, number=number):
                        effect = opening_effect(cloth, state, number)
                        for end in (0, 1):
                            reached = apply_move(bare, state, ("open", number, end))
                            self.assert_change(effect, holes(bare, state), holes(bare, reached))

    def test_the_imbalance_of_merged_holes(self):
        merged = 0
        for cloth, state in sweep():
            for number, entry in enumerate(state):
                effect = opening_effect(cloth, state, number) if entry[2] == 1 else ("none",)
                if effect[0] == "merge" and cloth.zips()[number][1] == 0:
                    before = [slack(cloth, state)[index] for index in effect[1:]]
                    reached = apply_move(cloth, state, ("open", number, 0))
                    pieces = zip(holes(cloth, reached), slack(cloth, reached))
                    after = [worth for hole, worth in pieces if hole not in holes(cloth, state)]
                    if [kind for kind, worth in before] == ["imbalance", "imbalance"]:
                        merged += 1
                        one, other = before[0][1], before[1][1]
                        self.assertIn(after, ([("imbalance", one + other)], [("imbalance", abs(one - other))]))
        self.assertGreater(merged, 0)

    def test_numbers_that_are_no_index_of_a_zip_with_one_pair(self):
        for count in (0, 2, 3):
            self.assert_unknown(A, ((0, 1, count),), 0)
        for number in ODD_VALUES + (2, -2, "0", (0,), [0], -10 ** 29):
            if number != 0 or number is False:
                self.assert_unknown(A, ((0, 1, 1),), number)
        for number in (True, False, 2, -1, -2):
            self.assert_unknown(D, ((0, 0, 1), (2, 0, 1)), number)
        self.assert_unknown(NO_ZIPS, (), 0)

    def assert_unknown(self, cloth, state, number):
        with self.subTest(number), self.assertRaises(UnknownZip) as caught:
            opening_effect(cloth, state, number)
        self.assertIs(caught.exception.number, number)

    def test_only_the_pairs_of_this_zip_count(self):
        self.assertEqual(opening_effect(TWICE, ((0, 0, 1), (4, 4, 2)), 0), ("merge", 0, 2))
        self.assert_unknown(TWICE, ((0, 0, 1), (4, 4, 2)), 1)


class InvalidStateTest(unittest.TestCase):
    def test_values_that_are_no_state(self):
        for value in ODD_VALUES + (list(S), ((0, 1, 5),), ((0, True, 1),), ((-1, 1, 1),), ((0, 1, True),), S + S, U):
            with self.subTest(value):
                with self.assertRaises(InvalidState):
                    holes(A, value)
                with self.assertRaises(InvalidState):
                    slack(A, value)
                for number in (0, 1, True, None, []):
                    with self.assertRaises(InvalidState):
                        opening_effect(A, value, number)


if __name__ == "__main__":
    unittest.main()
