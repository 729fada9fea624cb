import copy
import itertools
import random
import unittest

from tests import ribbons
from tests.samples import A, B, C, D, ODD_VALUES, P, Q, R, S, T, U
from tests.test_costs import FAR, FAR_GOAL, FAR_START, FARTHER_GOAL
from tests.worlds import large_cases, two_rows
from zipslack import errors, workspaces
from zipslack.closing import close_ranges, total_range
from zipslack.cloths import Cloth
from zipslack.errors import (Busy, ClothMismatch, IllegalMove, InvalidAction, InvalidState, LimitExceeded,
                             NothingToUndo, UnknownName, UnknownRow, UnknownZip)
from zipslack.moves import apply_move, apply_moves, is_legal, legal_moves
from zipslack.paths import shortest_path
from zipslack.states import gaps, is_state
from zipslack.workspaces import Workspace

L = ((0, 2), (2, 0))
NO_ZIPS = Cloth((("line", 4, ()), ("ring", 3, ())))
# A ring with three feet, one of them of an open zip, and a full line beside a roomy one.
RING = Cloth(
    (("ring", 9, ((0, 0), (1, 1), (2, 0))), ("line", 2, ((0, 1),)), ("line", 12, ((1, 0), (2, 1)))),
    (("parallel", 1), ("reversed", 0), ("parallel", 0)),
)
RING_STATE = ((7, 0, 2), (3, 10, 1), (14, 8, 0))
EIGHT = Cloth((("line", 4, tuple((number, side) for number in range(8) for side in (0, 1))), ("line", 3, ())),
              (("parallel", 0),) * 8)
EIGHT_STATE = ((1, 1, 0),) * 8
TWO_RINGS = Cloth((("ring", 3, ()), ("line", 4, ()), ("ring", 3, ()), ("line", 2, ())))
BAD_NAMES = ODD_VALUES + ("A", "a1", "abcdefghi", " ", "a b", "a\n", "\n", "-", "ab_", ["a"], ("a",), ("x",), [], "aB",
                          "x " * 400)


def error_fields(error):
    """The name of an error and its fields."""
    fields = {"IllegalMove": "position", "UnknownRow": "row", "UnknownZip": "number", "LimitExceeded": "limit"}
    name = type(error).__name__
    return (name, getattr(error, fields[name])) if name in fields else (name,)


def expected_result(cloth, state, action):
    """The cloth and the state after an action, or the error that it raises as a tuple of name and field."""
    if not ribbons.is_action(action):
        return ("InvalidAction",)
    if action[0] in ("close", "open", "slip"):
        return (cloth, apply_move(cloth, state, action)) if is_legal(cloth, state, action) else ("IllegalMove", 0)
    found = ribbons.edited(cloth, state, action)
    return found if isinstance(found[0], str) else (Cloth(found[0], found[1]), found[2])


def snapshot(workspace):
    """All that can be seen of a workspace, also by undoing everything in a clone."""
    seen = [len(workspace), workspace.saved()]
    other = workspace.clone()
    while True:
        names = other.saved()
        seen.append((other.cloth().rows(), other.cloth().zips(), other.state(), str(other), repr(other)))
        seen.append([saved_result(other, name) for name in names])
        if len(other) == 0:
            return seen
        other.undo()


def saved_result(workspace, name):
    try:
        return workspace.distance_to(name)
    except ClothMismatch:
        return "another cloth"


def random_action(cloth, state, source):
    """An action that is mostly possible, or nearly so."""
    name = source.choice((*ribbons.INTEGERS, "add_zip", "add_zip"))
    zip_number = source.choice([*range(len(cloth)), *range(len(cloth)), -1, len(cloth)])
    found = gaps(cloth, state)

    def spot():
        row = source.choice([*range(len(found))] * 4 + [-1, len(found)])
        sizes = found[row] if 0 <= row < len(found) else (3,)
        gap = source.choice([*range(len(sizes))] * 4 + [-1, len(sizes)])
        size = sizes[gap] if 0 <= gap < len(sizes) else 3
        return row, gap, source.choice([*range(size + 1)] * 4 + [-1, size + 1])

    if name in ("close", "open"):
        return (name, zip_number, source.choice((0, 1, 1, 0, 2, -1)))
    if name == "slip":
        return (name, zip_number, source.choice((0, 1)), source.choice((1, -1, 1, -1, 0, 2)))
    if name == "set_minimum":
        count = state[zip_number][2] if 0 <= zip_number < len(cloth) else 2
        return (name, zip_number, source.choice((0, 0, count, count + 1, -1, 1)))
    if name == "join_ends":
        return (name, spot()[0])
    if name == "cut":
        return (name, *spot())
    if name == "add_zip":
        first = spot()
        return (name, source.choice(("parallel", "reversed") * 4 + ("up",)), *first, *source.choice((first, spot())))
    return (name, zip_number)


class WorkspaceCase(unittest.TestCase):
    def assert_raises(self, expected, function, *arguments, **named):
        """The call raises the error of this class and with these fields."""
        try:
            function(*arguments, **named)
        except Exception as error:
            self.assertEqual(type(error), type(expected), arguments)
            self.assertEqual(vars(error), vars(expected))
        else:
            self.fail(f"nothing was raised for {arguments}")

    def assert_impossible(self, workspace, action, expected):
        """The action raises the error and changes nothing."""
        before = snapshot(workspace)
        with self.subTest(action=action):
            self.assert_raises(expected, workspace.do, action)
            self.assertEqual(snapshot(workspace), before)

    def assert_done(self, cloth, state, action, rows, zips, reached):
        """The action leads to this cloth and this state, and can be undone."""
        workspace = Workspace(cloth, state)
        with self.subTest(action=action):
            self.assertIsNone(workspace.do(action))
            self.assertEqual((workspace.cloth().rows(), workspace.cloth().zips()), (rows, zips))
            self.assertEqual(workspace.state(), reached)
            self.assertEqual(len(workspace), 1)
            self.assertIsNone(workspace.undo())
            self.assertEqual((workspace.cloth(), workspace.state(), len(workspace)), (cloth, state, 0))

    def assert_follows(self, workspace, action):
        """The action does what the ribbons do, or raises what they say and changes nothing. Returns the result."""
        cloth, state, before = workspace.cloth(), workspace.state(), len(workspace)
        expected = expected_result(cloth, state, action)
        try:
            self.assertIsNone(workspace.do(action))
            found = (workspace.cloth(), workspace.state())
            self.assertTrue(is_state(*found))
            self.assertEqual(len(workspace), before + 1)
        except (InvalidAction, IllegalMove, UnknownRow, UnknownZip, LimitExceeded) as error:
            found = error_fields(error)
            self.assertEqual((workspace.cloth(), workspace.state(), len(workspace)), (cloth, state, before))
        self.assertEqual(found, expected, (str(cloth), state, action))
        return expected


class ExamplesTest(WorkspaceCase):
    def test_the_examples(self):
        w = Workspace(A, S)
        self.assertEqual([str(w), repr(w), len(w)], ["0 1 2", "Workspace(Cloth(2 rows, 1 zips))", 0])
        w.do(("add_zip", "reversed", 0, 1, 0, 1, 1, 2))
        self.assertEqual(w.state(), ((0, 1, 2), (2, 5, 0)))
        self.assert_raises(UnknownRow(5), Workspace(A, S).do, ("join_ends", 5))
        self.assert_raises(IllegalMove(0), Workspace(A, S).do, ("slip", 0, 1, 5))
        w = Workspace(A, S)
        self.assertEqual([w.cloth() == A, w.state()], [True, ((0, 1, 2),)])
        w.do(("close", 0, 1))
        w.undo()
        self.assertEqual([w.state(), len(w)], [((0, 1, 2),), 0])
        w = Workspace(A, S)
        w.save("x")
        self.assertEqual(w.saved(), ["x"])
        w.do(("close", 0, 1))
        self.assertEqual([w.distance_to("x"), w.path_to("x")], [1, [("open", 0, 1)]])
        self.assert_raises(UnknownName("y"), Workspace(A, S).path_to, "y")
        self.assertEqual(Workspace(A, ((1, 2, 0),)).close_all(((3, 2),)), [(0, 0), (0, 1), (0, 1)])
        w = Workspace(A, S)
        self.assertIs(w.clone() == w, True)

    def test_arguments_by_name(self):
        w = Workspace(state=S, cloth=A)
        w.do(action=("close", 0, 1))
        w.save(name="a")
        self.assertEqual((w.distance_to(name="a"), w.path_to(name="a")), (0, []))
        self.assertEqual(w.close_all(choose=None, limits=((1, 1),)), [(0, 1)])
        with self.assertRaises(TypeError):
            w.close_all(((1, 1),), None)

    def test_methods_are_defined_in_the_class(self):
        self.assertEqual(Workspace.__module__, "zipslack.workspaces")
        self.assertIs(workspaces.Workspace, Workspace)
        for name in ("do", "cloth", "state", "undo", "save", "saved", "distance_to", "path_to", "close_all", "clone",
                     "__eq__", "__len__", "__str__", "__repr__"):
            self.assertIn(name, vars(Workspace))

    def test_texts(self):
        self.assertEqual(str(Workspace(D, U)), "0 0 0 ; 3 2 0")
        self.assertEqual(str(Workspace(NO_ZIPS, ())), "-")
        self.assertEqual(repr(Workspace(NO_ZIPS, ())), "Workspace(Cloth(2 rows, 0 zips))")
        self.assertEqual(repr(Workspace(Cloth((("line", 1, ()),)), ())), "Workspace(Cloth(1 rows, 0 zips))")


class MovesTest(WorkspaceCase):
    def test_every_move(self):
        for cloth, state in ((A, S), (A, ((1, 1, 0),)), (B, P), (D, U), (RING, RING_STATE)):
            for move in legal_moves(cloth, state):
                self.assert_done(cloth, state, move, cloth.rows(), cloth.zips(), apply_move(cloth, state, move))

    def test_moves_that_are_not_legal(self):
        workspace = Workspace(A, S)
        workspace.save("a")
        for move in (("close", 0, 0), ("close", 1, 0), ("close", -1, 0), ("close", 0, 2), ("open", 10 ** 29, 0),
                     ("slip", 0, 0, 1), ("slip", 0, 1, 5), ("slip", 0, 5, 1), ("slip", 9, 9, 9), ("open", 0, -1)):
            self.assert_impossible(workspace, move, IllegalMove(0))

    def test_at_the_minimum(self):
        self.assert_impossible(Workspace(B, P), ("open", 0, 0), IllegalMove(0))


class SetMinimumTest(WorkspaceCase):
    def test_each_minimum(self):
        for minimum in range(3):
            self.assert_done(A, S, ("set_minimum", 0, minimum), A.rows(), (("parallel", minimum),), S)
        self.assert_done(B, P, ("set_minimum", 0, 0), B.rows(), (("parallel", 0),), P)
        self.assert_done(RING, RING_STATE, ("set_minimum", 1, 1), RING.rows(),
                         (("parallel", 1), ("reversed", 1), ("parallel", 0)), RING_STATE)

    def test_impossible(self):
        workspace = Workspace(A, S)
        for minimum in (3, -1, 24, 10 ** 29, -10 ** 29):
            self.assert_impossible(workspace, ("set_minimum", 0, minimum), InvalidAction())
        for number in (1, -1, 8, 10 ** 29):
            for minimum in (0, 3, -1):
                self.assert_impossible(workspace, ("set_minimum", number, minimum), UnknownZip(number))
        self.assert_impossible(Workspace(NO_ZIPS, ()), ("set_minimum", 0, 0), UnknownZip(0))

    def test_a_zip_is_bound_then(self):
        workspace = Workspace(A, S)
        workspace.do(("set_minimum", 0, 2))
        self.assert_impossible(workspace, ("open", 0, 1), IllegalMove(0))
        workspace.do(("set_minimum", 0, 1))
        workspace.do(("open", 0, 1))
        self.assertEqual(workspace.state(), ((0, 1, 1),))


class JoinAndCutTest(WorkspaceCase):
    def test_join_ends(self):
        rows = (("ring", 4, ((0, 0),)), A.rows()[1])
        self.assert_done(A, S, ("join_ends", 0), rows, A.zips(), S)
        self.assert_done(NO_ZIPS, (), ("join_ends", 0), (("ring", 4, ()), ("ring", 3, ())), (), ())
        self.assert_done(D, U, ("join_ends", 0), (("ring", 3, ((0, 0), (1, 0))),) + D.rows()[1:], D.zips(), U)

    def test_feet_behind_the_last_tooth(self):
        rows = (("ring", 4, ((0, 0),)), A.rows()[1])
        self.assert_done(A, ((4, 1, 0),), ("join_ends", 0), rows, A.zips(), ((0, 1, 0),))
        state = ((3, 0, 0), (3, 1, 0))
        self.assert_done(D, state, ("join_ends", 0), (("ring", 3, ((0, 0), (1, 0))),) + D.rows()[1:], D.zips(),
                         ((0, 0, 0), (0, 1, 0)))

    def test_join_ends_of_a_ring(self):
        self.assert_impossible(Workspace(B, P), ("join_ends", 0), InvalidAction())
        # There are two rings already, but the row is no line.
        self.assert_impossible(Workspace(TWO_RINGS, ()), ("join_ends", 2), InvalidAction())

    def test_a_third_ring(self):
        workspace = Workspace(TWO_RINGS, ())
        for row in (1, 3):
            self.assert_impossible(workspace, ("join_ends", row), LimitExceeded(2))
        for row in (4, -1):
            self.assert_impossible(workspace, ("join_ends", row), UnknownRow(row))
        workspace.do(("cut", 0, 0, 0))
        workspace.do(("join_ends", 1))
        self.assert_impossible(workspace, ("join_ends", 0), LimitExceeded(2))

    def test_cut(self):
        zips = RING.zips()
        order = RING.rows()[0][2]
        # The gaps of the ring are 1, 3 and 2.
        self.assertEqual(gaps(RING, RING_STATE)[0], (1, 3, 2))
        for gap, teeth_before, lows in ((0, 0, (7, 1, 5)), (0, 1, (6, 0, 4)), (1, 0, (5, 8, 3)), (1, 2, (3, 6, 1)),
                                        (2, 0, (2, 5, 9)), (2, 2, (0, 3, 7))):
            rows = (("line", 9, order[gap + 1:] + order[:gap + 1]),) + RING.rows()[1:]
            reached = ((lows[0], 0, 2), (3, lows[1], 1), (lows[2], 8, 0))
            self.assert_done(RING, RING_STATE, ("cut", 0, gap, teeth_before), rows, zips, reached)

    def test_cut_of_a_ring_without_feet(self):
        for teeth_before in range(4):
            self.assert_done(NO_ZIPS, (), ("cut", 1, 0, teeth_before), (("line", 4, ()), ("line", 3, ())), (), ())

    def test_impossible_cuts(self):
        workspace = Workspace(RING, RING_STATE)
        for gap, teeth_before in ((0, 2), (0, -1), (1, 4), (2, 3), (3, 0), (-1, 0), (10 ** 29, 0), (0, 10 ** 29)):
            self.assert_impossible(workspace, ("cut", 0, gap, teeth_before), InvalidAction())
        self.assert_impossible(workspace, ("cut", 1, 0, 0), InvalidAction())
        for row in (3, -1, 10 ** 29):
            self.assert_impossible(workspace, ("cut", row, 7, 7), UnknownRow(row))
        for gap, teeth_before in ((1, 0), (-1, 0), (0, 4), (0, -1)):
            self.assert_impossible(Workspace(NO_ZIPS, ()), ("cut", 1, gap, teeth_before), InvalidAction())

    def test_every_cut_and_join_ends_behind_it(self):
        cases = [*large_cases(71, 60, states=1), (RING, RING_STATE), (B, P), (C, T)]
        cuts = 0
        for cloth, state in cases:
            for row, sizes in enumerate(gaps(cloth, state)):
                sort, teeth, feet = cloth.rows()[row]
                if sort == "line":
                    continue
                for gap, size in enumerate(sizes):
                    for teeth_before in range(size + 1):
                        workspace = Workspace(cloth, state)
                        self.assert_follows(workspace, ("cut", row, gap, teeth_before))
                        turned = feet[gap + 1:] + feet[:gap + 1]
                        self.assertEqual(workspace.cloth().rows()[row], ("line", teeth, turned))
                        self.assert_follows(workspace, ("join_ends", row))
                        self.assertEqual(sorted(gaps(workspace.cloth(), workspace.state())[row]), sorted(sizes))
                        workspace.undo()
                        workspace.undo()
                        self.assertEqual((workspace.cloth(), workspace.state()), (cloth, state))
                        cuts += 1
        self.assertGreater(cuts, 200)


class AddAndRemoveTest(WorkspaceCase):
    def add(self, direction, spot0, spot1):
        return ("add_zip", direction, *spot0, *spot1)

    def test_on_lines(self):
        zips = A.zips() + (("parallel", 0),)
        rows = (("line", 4, ((1, 0), (0, 0))), ("line", 5, ((0, 1), (1, 1))))
        self.assert_done(A, S, self.add("parallel", (0, 0, 0), (1, 1, 1)), rows, zips, ((0, 1, 2), (0, 4, 0)))
        rows = (("line", 4, ((0, 0), (1, 1))), ("line", 5, ((1, 0), (0, 1))))
        self.assert_done(A, S, self.add("parallel", (1, 0, 1), (0, 1, 2)), rows, zips, ((0, 1, 2), (1, 4, 0)))

    def test_both_feet_in_one_gap(self):
        zips = A.zips() + (("reversed", 0),)
        before, behind = ((1, 0), (1, 1)), ((1, 1), (1, 0))
        for teeth0, teeth1 in itertools.product(range(3), repeat=2):
            feet = ((0, 0),) + (before if teeth0 <= teeth1 else behind)
            rows = (("line", 4, feet), A.rows()[1])
            action = self.add("reversed", (0, 1, teeth0), (0, 1, teeth1))
            self.assert_done(A, S, action, rows, zips, ((0, 1, 2), (2 + teeth0, 2 + teeth1, 0)))

    def test_on_a_row_without_feet(self):
        for teeth0, teeth1 in itertools.product(range(5), repeat=2):
            feet = ((0, 0), (0, 1)) if teeth0 <= teeth1 else ((0, 1), (0, 0))
            rows = (("line", 4, feet), ("ring", 3, ()))
            self.assert_done(NO_ZIPS, (), self.add("parallel", (0, 0, teeth0), (0, 0, teeth1)), rows,
                             (("parallel", 0),), ((teeth0, teeth1, 0),))

    def test_on_a_ring_without_feet(self):
        for teeth0, teeth1, lows in ((0, 0, (0, 0)), (1, 2, (1, 2)), (0, 3, (0, 3)), (2, 3, (2, 3)), (3, 3, (0, 0))):
            rows = (("line", 4, ()), ("ring", 3, ((0, 0), (0, 1))))
            self.assert_done(NO_ZIPS, (), self.add("parallel", (1, 0, teeth0), (1, 0, teeth1)), rows,
                             (("parallel", 0),), (lows + (0,),))
        rows = (("line", 4, ()), ("ring", 3, ((0, 1), (0, 0))))
        zips = (("parallel", 0),)
        self.assert_done(NO_ZIPS, (), self.add("parallel", (1, 0, 3), (1, 0, 1)), rows, zips, ((3, 1, 0),))
        rows = (("line", 4, ((0, 0),)), ("ring", 3, ((0, 1),)))
        self.assert_done(NO_ZIPS, (), self.add("parallel", (0, 0, 4), (1, 0, 3)), rows, zips, ((4, 0, 0),))

    def test_in_the_last_gap_of_a_ring(self):
        # The position may be beyond the teeth of the ring, or look as if it were before the first foot.
        zips = B.zips() + (("parallel", 0),)
        for teeth_before in range(3):
            rows = (("ring", 3, ((0, 0), (1, 0))), ("line", 5, ((0, 1), (1, 1))))
            action = self.add("parallel", (0, 0, teeth_before), (1, 1, 0))
            self.assert_done(B, ((2, 0, 1),), action, rows, zips, ((2, 0, 1), (3 + teeth_before, 1, 0)))
        both = (("ring", 3, ((0, 0), (1, 1), (1, 0))), B.rows()[1])
        action = self.add("parallel", (0, 0, 2), (0, 0, 1))
        self.assert_done(B, ((2, 0, 1),), action, both, zips, ((2, 0, 1), (5, 4, 0)))

    def test_between_the_feet_of_a_ring(self):
        zips = RING.zips() + (("parallel", 0),)
        rows = (("ring", 9, ((0, 0), (3, 0), (1, 1), (3, 1), (2, 0))),) + RING.rows()[1:]
        self.assert_done(RING, RING_STATE, self.add("parallel", (0, 0, 1), (0, 1, 2)), rows, zips,
                         RING_STATE + ((10, 13, 0),))

    def test_impossible(self):
        workspace = Workspace(A, S)
        good0, good1 = (0, 1, 0), (1, 1, 2)
        for row in (2, -1, 10 ** 29):
            self.assert_impossible(workspace, self.add("parallel", (row, 0, 0), good1), UnknownRow(row))
            self.assert_impossible(workspace, self.add("parallel", good0, (row, 0, 0)), UnknownRow(row))
            # Rows are looked at before anything else, and the first one first.
            self.assert_impossible(workspace, self.add("up", (row, 9, 9), (7, 9, 9)), UnknownRow(row))
            self.assert_impossible(workspace, self.add("up", (0, 9, 9), (row, 9, 9)), UnknownRow(row))
        for spot in ((0, 2, 0), (0, -1, 0), (0, 0, 1), (0, 1, 3), (0, 1, -1), (0, 10 ** 29, 0), (0, 0, 10 ** 29)):
            self.assert_impossible(workspace, self.add("parallel", spot, good1), InvalidAction())
            self.assert_impossible(workspace, self.add("reversed", good1, spot), InvalidAction())
        for direction in ("", "Parallel", "up", "parallel ", "line"):
            self.assert_impossible(workspace, self.add(direction, good0, good1), InvalidAction())

    def test_a_ninth_zip(self):
        workspace = Workspace(EIGHT, EIGHT_STATE)
        self.assert_impossible(workspace, self.add("parallel", (0, 0, 0), (1, 0, 0)), LimitExceeded(8))
        self.assert_impossible(workspace, self.add("up", (0, 0, 0), (1, 0, 0)), InvalidAction())
        self.assert_impossible(workspace, self.add("parallel", (0, 0, 2), (1, 0, 0)), InvalidAction())
        self.assert_impossible(workspace, self.add("parallel", (0, 0, 2), (2, 0, 0)), UnknownRow(2))
        workspace.do(("remove_zip", 3))
        workspace.do(self.add("parallel", (0, 0, 0), (1, 0, 0)))
        self.assertEqual(len(workspace.cloth()), 8)
        self.assert_impossible(workspace, self.add("parallel", (0, 0, 0), (1, 0, 0)), LimitExceeded(8))

    def test_remove(self):
        rows = (("line", 5, ((0, 1),)), ("line", 5, ()))
        self.assert_done(D, U, ("remove_zip", 1), (("line", 3, ((0, 0),)), ("line", 5, ((0, 1),)), ("line", 5, ())),
                         (("parallel", 0),), ((0, 0, 0),))
        self.assert_done(D, U, ("remove_zip", 0), (("line", 3, ((0, 0),)), ("line", 5, ()), ("line", 5, ((0, 1),))),
                         (("parallel", 0),), ((3, 2, 0),))
        rows = (("ring", 9, ((0, 0), (1, 1))), ("line", 2, ((0, 1),)), ("line", 12, ((1, 0),)))
        self.assert_done(RING, RING_STATE, ("remove_zip", 2), rows, RING.zips()[:2], RING_STATE[:2])

    def test_remove_the_first_foot_of_a_ring(self):
        cloth = Cloth((("ring", 4, ((0, 0), (1, 1), (2, 0))), ("line", 9, ((0, 1), (1, 0), (2, 1)))),
                      (("parallel", 0), ("reversed", 1), ("parallel", 0)))
        state = ((3, 0, 0), (1, 5, 1), (7, 6, 0))
        rows = (("ring", 4, ((0, 1), (1, 0))), ("line", 9, ((0, 0), (1, 1))))
        self.assert_done(cloth, state, ("remove_zip", 0), rows, cloth.zips()[1:], ((1, 1, 1), (3, 6, 0)))

    def test_impossible_to_remove(self):
        workspace = Workspace(A, S)
        self.assert_impossible(workspace, ("remove_zip", 0), InvalidAction())
        for number in (1, -1, 10 ** 29):
            self.assert_impossible(workspace, ("remove_zip", number), UnknownZip(number))
        self.assert_impossible(Workspace(NO_ZIPS, ()), ("remove_zip", 0), UnknownZip(0))

    def test_removing_what_was_added(self):
        for cloth, state in large_cases(72, 80, states=1):
            if len(cloth) < 8:
                spots = [(row, gap, size) for row, sizes in enumerate(gaps(cloth, state))
                         for gap, size in enumerate(sizes)]
                for spot0, spot1 in itertools.product(spots[::2], spots[::3]):
                    workspace = Workspace(cloth, state)
                    self.assert_follows(workspace, self.add("parallel", spot0, spot1))
                    workspace.do(("remove_zip", len(cloth)))
                    self.assertEqual((workspace.cloth(), workspace.state()), (cloth, state))


class WrongActionsTest(WorkspaceCase):
    def test_values_that_are_no_action(self):
        workspace = Workspace(A, S)
        workspace.do(("close", 0, 1))
        workspace.save("a")
        odd = ((), ("close",), ("close", 0), ("close", 0, 1, 0), ["close", 0, 1], ("close", 0, True),
               ("close", False, 1), ("close", "0", 1), ("close", 0, None), ("Close", 0, 1), ("slip", 0, 1),
               ("slip", 0, 1, True), ("slip", 0, 1, "up"), ("slip", 0, 1, 1, 1), ("set_minimum", 0),
               ("set_minimum", 0, True), ("set_minimum", 0, 1, 2), ("set_minimum", True, 0), ("join_ends",),
               ("join_ends", True), ("join_ends", "0"), ("join_ends", 0, 0), ("cut", 0, 0), ("cut", 0, 0, False),
               ("cut", 0, 0, 0, 0), ("add_zip",), ("add_zip", "parallel", 0, 0, 0, 1, 0),
               ("add_zip", "parallel", 0, 0, 0, 1, 0, 0, 0), ("add_zip", 0, 0, 0, 0, 1, 0, 0),
               ("add_zip", "parallel", 0, 0, 0, 1, 0, False), ("add_zip", "parallel", True, 0, 0, 9, 0, 0),
               ("add_zip", None, 9, 0, 0, 1, 0, 0), ("add_zip", ("parallel",), 0, 0, 0, 1, 0, 0), ("remove_zip",),
               ("remove_zip", None), ("remove_zip", True), ("remove_zip", 0, 0), ("undo",), ("save", "a"),
               ("close_all", ((0, 0),)), (("close", 0, 1),), "close 0 1", ("remove_zip", (0,)), (None, 0, 1), (0, 0, 1),
               (("close",), 0, 1), ("", 0), ("cut", [0], 0, 0))
        for value in odd + ODD_VALUES:
            before = copy.deepcopy(value) if not isinstance(value, Cloth) else value
            self.assert_impossible(workspace, value, InvalidAction())
            self.assertEqual(value, before)

    def test_wrong_kinds_come_before_wrong_indices(self):
        workspace = Workspace(A, S)
        for value in (("cut", 9, 0, True), ("set_minimum", 9, None), ("add_zip", "up", 9, 0, 0, 9, 0, True)):
            self.assert_impossible(workspace, value, InvalidAction())


class HistoryTest(WorkspaceCase):
    def test_nothing_to_undo(self):
        workspace = Workspace(A, S)
        workspace.save("a")
        before = snapshot(workspace)
        self.assert_raises(NothingToUndo(), workspace.undo)
        self.assertEqual(snapshot(workspace), before)
        workspace.do(("close", 0, 1))
        workspace.undo()
        self.assert_raises(NothingToUndo(), workspace.undo)

    def test_undo_is_no_action(self):
        workspace = Workspace(A, S)
        for move in (("close", 0, 1), ("open", 0, 0), ("open", 0, 1)):
            workspace.do(move)
        workspace.undo()
        workspace.undo()
        self.assertEqual((workspace.state(), len(workspace)), (((0, 1, 3),), 1))
        workspace.do(("close", 0, 1))
        workspace.undo()
        workspace.undo()
        self.assertEqual((workspace.state(), len(workspace)), (S, 0))

    def test_many_actions(self):
        """Random actions, then back to the start, and everything again."""
        seen = {}
        for seed, (cloth, state) in enumerate(large_cases(73, 120, states=1)):
            source = random.Random(seed)
            workspace = Workspace(cloth, state)
            done, passed = [], [(cloth, state)]
            for step in range(40):
                action = random_action(workspace.cloth(), workspace.state(), source)
                found = self.assert_follows(workspace, action)
                if isinstance(found[0], str):
                    seen[found[0]] = seen.get(found[0], 0) + 1
                else:
                    done.append(action)
                    passed.append(found)
                    seen[action[0]] = seen.get(action[0], 0) + 1
            self.assertEqual(len(workspace), len(done))
            for found in passed[-2::-1]:
                workspace.undo()
                self.assertEqual((workspace.cloth(), workspace.state()), found)
            self.assert_raises(NothingToUndo(), workspace.undo)
            for action in done:
                workspace.do(action)
            self.assertEqual((workspace.cloth(), workspace.state(), len(workspace)), (*passed[-1], len(done)))
        for name in (*ribbons.INTEGERS, "add_zip", "UnknownRow", "UnknownZip", "InvalidAction", "LimitExceeded",
                     "IllegalMove"):
            self.assertGreater(seen.get(name, 0), 20, name)

    def test_after_edits_a_path_is_shortest(self):
        for seed, (cloth, state) in enumerate(large_cases(74, 60, states=1)):
            source = random.Random(seed)
            workspace = Workspace(cloth, state)
            for step in range(12):
                action = random_action(workspace.cloth(), workspace.state(), source)
                if not isinstance(expected_result(workspace.cloth(), workspace.state(), action)[0], str):
                    workspace.do(action)
            workspace.save("here")
            start = workspace.state()
            moved = 0
            for step in range(15):
                found = legal_moves(workspace.cloth(), workspace.state())
                if found:
                    workspace.do(source.choice(found))
                    moved += 1
            path = workspace.path_to("here")
            self.assertLessEqual(len(path), moved)
            self.assertEqual(len(path), workspace.distance_to("here"))
            self.assertEqual(apply_moves(workspace.cloth(), workspace.state(), path), start)


class SavedTest(WorkspaceCase):
    def test_names(self):
        workspace = Workspace(A, S)
        self.assertEqual(workspace.saved(), [])
        for name in ("b", "a", "abcdefgh", "zz", "x"):
            self.assertIsNone(workspace.save(name))
        self.assertEqual(workspace.saved(), ["a", "abcdefgh", "b", "x", "zz"])
        self.assertEqual(len(workspace), 0)

    def test_values_that_are_no_name(self):
        workspace = Workspace(A, S)
        workspace.save("x")
        before = snapshot(workspace)
        for value in BAD_NAMES:
            if value != "line":
                with self.subTest(value):
                    for function in (workspace.save, workspace.distance_to, workspace.path_to):
                        with self.assertRaises(UnknownName) as caught:
                            function(value)
                        self.assertIs(caught.exception.name, value)
        self.assertEqual(snapshot(workspace), before)

    def test_nothing_saved_under_a_name(self):
        workspace = Workspace(A, S)
        workspace.save("x")
        for name in ("y", "xx", "line"):
            self.assert_raises(UnknownName(name), workspace.distance_to, name)
            self.assert_raises(UnknownName(name), workspace.path_to, name)

    def test_a_name_again(self):
        workspace = Workspace(A, S)
        workspace.save("x")
        workspace.do(("close", 0, 1))
        self.assertEqual(workspace.distance_to("x"), 1)
        workspace.save("x")
        self.assertEqual((workspace.distance_to("x"), workspace.saved()), (0, ["x"]))
        # Saving is no action, so undoing leaves it.
        workspace.undo()
        self.assertEqual((workspace.distance_to("x"), workspace.path_to("x")), (1, [("close", 0, 1)]))

    def test_another_cloth(self):
        workspace = Workspace(A, S)
        workspace.save("x")
        workspace.do(("set_minimum", 0, 1))
        workspace.save("y")
        for function in (workspace.distance_to, workspace.path_to):
            self.assert_raises(ClothMismatch("x"), function, "x")
            self.assert_raises(UnknownName("z"), function, "z")
            self.assert_raises(UnknownName(("x",)), function, ("x",))
        self.assertEqual((workspace.distance_to("y"), workspace.path_to("y")), (0, []))
        workspace.undo()
        self.assertEqual((workspace.distance_to("x"), workspace.path_to("x")), (0, []))
        self.assert_raises(ClothMismatch("y"), workspace.distance_to, "y")

    def test_an_equal_cloth_by_other_edits(self):
        workspace = Workspace(A, S)
        workspace.save("x")
        workspace.do(("add_zip", "parallel", 0, 0, 0, 1, 0, 0))
        self.assert_raises(ClothMismatch("x"), workspace.path_to, "x")
        workspace.do(("remove_zip", 1))
        self.assertEqual(workspace.path_to("x"), [])

    def test_distances_and_paths(self):
        workspace = Workspace(B, P)
        workspace.save("start")
        for step in range(3):
            workspace.do(("close", 0, 1))
            workspace.do(("open", 0, 0))
        self.assertEqual(workspace.state(), Q)
        self.assertEqual((workspace.distance_to("start"), workspace.path_to("start")), (6, shortest_path(B, Q, P)))

    def test_an_unreachable_state(self):
        workspace = Workspace(B, P)
        workspace.save("there")
        workspace.do(("set_minimum", 0, 0))
        workspace.do(("open", 0, 1))
        workspace.do(("slip", 0, 0, 1))
        workspace.do(("close", 0, 1))
        workspace.do(("set_minimum", 0, 1))
        self.assertEqual(workspace.state(), R)
        self.assertIsNone(workspace.distance_to("there"))
        self.assertIsNone(workspace.path_to("there"))

    def test_too_far(self):
        for goal, count in ((FAR_GOAL, 2000), (FARTHER_GOAL, 2001)):
            workspace = Workspace(FAR, FAR_START)
            workspace.save("here")
            for move in self.moves_to_far(goal):
                workspace.do(move)
            self.assertEqual(workspace.state(), goal)
            self.assertEqual(workspace.distance_to("here"), count)
            if count <= 2000:
                self.assertEqual(workspace.path_to("here"), shortest_path(FAR, goal, FAR_START))
            else:
                self.assert_raises(LimitExceeded(2000), workspace.path_to, "here")
                self.assert_raises(UnknownName("x"), workspace.path_to, "x")
                workspace.do(("set_minimum", 0, 0))
                self.assert_raises(ClothMismatch("here"), workspace.path_to, "here")

    def moves_to_far(self, goal):
        path = shortest_path(FAR, FAR_START, FAR_GOAL)
        return path if goal == FAR_GOAL else path + [("close", 3, 1)]

    def test_returned_lists_belong_to_the_caller(self):
        workspace = Workspace(A, S)
        workspace.save("x")
        workspace.saved().clear()
        self.assertEqual(workspace.saved(), ["x"])
        workspace.do(("close", 0, 1))
        workspace.path_to("x").clear()
        self.assertEqual(workspace.path_to("x"), [("open", 0, 1)])
        workspace.close_all(((1, 1),)).clear()
        self.assertEqual(workspace.state(), ((0, 1, 4),))


class CloneTest(WorkspaceCase):
    def test_a_clone_has_everything(self):
        workspace = Workspace(A, S)
        workspace.do(("close", 0, 1))
        workspace.save("x")
        workspace.do(("join_ends", 0))
        self.assertEqual(snapshot(workspace.clone()), snapshot(workspace))
        self.assertIsInstance(workspace.clone(), Workspace)

    def test_clones_share_nothing(self):
        workspace = Workspace(A, S)
        workspace.do(("close", 0, 1))
        workspace.save("x")
        other = workspace.clone()
        before = snapshot(workspace)
        other.do(("join_ends", 0))
        other.save("x")
        other.save("y")
        other.close_all(((4, 4),))
        self.assertEqual(snapshot(workspace), before)
        changed = snapshot(other)
        workspace.undo()
        workspace.save("z")
        workspace.do(("open", 0, 1))
        self.assertEqual(snapshot(other), changed)
        while len(other) > 0:
            other.undo()
        self.assertEqual(len(workspace), 1)

    def test_two_workspaces_share_nothing(self):
        first, second = Workspace(A, S), Workspace(A, S)
        first.do(("close", 0, 1))
        first.save("x")
        self.assertEqual((second.state(), len(second), second.saved()), (S, 0, []))


class EqualityTest(unittest.TestCase):
    def test_equal_workspaces(self):
        first, second = Workspace(A, S), Workspace(Cloth(A.rows(), A.zips()), ((0, 1, 2),))
        self.assertTrue(first == second)
        self.assertFalse(first != second)
        # The history and the saved states do not count.
        first.do(("close", 0, 1))
        self.assertFalse(first == second)
        self.assertTrue(first != second)
        first.do(("open", 0, 1))
        first.save("x")
        self.assertTrue(first == second)

    def test_another_cloth_or_state(self):
        self.assertFalse(Workspace(A, S) == Workspace(A, ((0, 1, 1),)))
        self.assertFalse(Workspace(A, S) == Workspace(Cloth(A.rows(), (("parallel", 1),)), S))
        self.assertFalse(Workspace(NO_ZIPS, ()) == Workspace(Cloth((("line", 4, ()),)), ()))

    def test_other_values(self):
        workspace = Workspace(A, S)
        for value in ODD_VALUES + (S, str(workspace), A, object()):
            self.assertIs(workspace == value, False)
            self.assertIs(workspace != value, True)

    def test_the_truth_is_the_number_of_actions(self):
        workspace = Workspace(A, S)
        self.assertFalse(workspace)
        workspace.do(("close", 0, 1))
        self.assertTrue(workspace)


class CloseAllTest(WorkspaceCase):
    def closable(self, workspace, limits, order):
        return [(number, end) for number in range(len(workspace.cloth())) for end in (0, 1)
                if order.count((number, end)) < limits[number][end]
                and is_legal(workspace.cloth(), workspace.state(), ("close", number, end))]

    def assert_closed(self, cloth, state, limits, numbers):
        """The numbers that are chosen, one after the other and round again, lead to what single moves lead to."""
        seen, chosen = [], itertools.cycle(numbers)

        def choose(sliders):
            seen.append(list(sliders))
            return next(chosen)

        workspace = Workspace(cloth, state)
        workspace.save("before")
        order = workspace.close_all(limits, choose=choose)
        self.assertEqual((len(workspace), workspace.saved()), (1, ["before"]))
        other = Workspace(cloth, state)
        again, expected, offered = itertools.cycle(numbers), [], []
        while self.closable(other, limits, expected):
            offered.append(self.closable(other, limits, expected))
            number, end = offered[-1][next(again) % len(offered[-1])]
            other.do(("close", number, end))
            expected.append((number, end))
        self.assertEqual((order, seen), (expected, offered))
        self.assertEqual((workspace.cloth(), workspace.state()), (cloth, other.state()))
        for number, ends in enumerate(close_ranges(cloth, state, limits)):
            for end, (least, most) in enumerate(ends):
                self.assertTrue(least <= order.count((number, end)) <= most)
        least, most = total_range(cloth, state, limits)
        self.assertTrue(least <= len(order) <= most)
        workspace.undo()
        self.assertEqual((workspace.state(), len(workspace)), (state, 0))
        return order

    def test_without_choose(self):
        workspace = Workspace(A, ((1, 2, 0),))
        self.assertEqual(workspace.close_all(((48, 48),)), [(0, 0), (0, 1), (0, 1), (0, 1)])
        self.assertEqual((workspace.state(), len(workspace)), (((0, 1, 4),), 1))
        workspace.undo()
        self.assertEqual((workspace.state(), len(workspace)), (((1, 2, 0),), 0))
        self.assertEqual(Workspace(D, U).close_all(L), [(0, 1), (0, 1), (1, 0)])
        self.assertEqual(Workspace(D, U).close_all(L, choose=None), [(0, 1), (0, 1), (1, 0)])

    def test_with_choose(self):
        self.assertEqual(Workspace(D, U).close_all(L, choose=lambda sliders: 1), [(1, 0), (1, 0), (0, 1)])
        self.assertEqual(Workspace(D, U).close_all(L, choose=lambda sliders: -1), [(1, 0), (1, 0), (0, 1)])
        self.assertEqual(Workspace(D, U).close_all(L, choose=lambda sliders: 10 ** 29), [(0, 1), (0, 1), (1, 0)])

    def test_an_empty_order_is_an_action(self):
        for cloth, state, limits in ((C, T, ((48, 48),)), (A, S, ((0, 0),)), (NO_ZIPS, (), ())):
            workspace = Workspace(cloth, state)
            self.assertEqual(workspace.close_all(limits, choose=self.fail), [])
            self.assertEqual(len(workspace), 1)
            workspace.undo()
            self.assertEqual((workspace.state(), len(workspace)), (state, 0))

    def test_many_cloths(self):
        source = random.Random(75)
        longest = 0
        for cloth, state in large_cases(76, 150, states=1):
            limits = tuple((source.choice((0, 1, 3, 48)), source.choice((0, 2, 48))) for number in range(len(cloth)))
            drawn = [source.randrange(-20, 20) for step in range(7)]
            for numbers in ([0], [-1], [1, -7, 10 ** 29, 3, -10 ** 29], drawn):
                longest = max(longest, len(self.assert_closed(cloth, state, limits, numbers)))
        self.assertGreater(longest, 10)

    def test_a_choose_that_changes_its_list(self):
        def choose(sliders):
            sliders.clear()
            sliders.append((7, 7))
            return 1

        self.assertEqual(Workspace(D, U).close_all(L, choose=choose), [(1, 0), (1, 0), (0, 1)])

    def test_a_choose_that_looks_at_the_workspace(self):
        workspace = Workspace(D, U)
        workspace.do(("slip", 0, 1, 1))
        workspace.undo()
        workspace.do(("slip", 1, 1, 1))
        workspace.save("x")
        states = []

        def choose(sliders):
            states.append(workspace.state())
            self.assertEqual((len(workspace), workspace.saved(), workspace.cloth()), (1, ["x"], D))
            self.assertEqual(str(workspace), workspace.clone().__str__())
            self.assertEqual(workspace.distance_to("x"), len(states) - 1)
            self.assertEqual(len(workspace.path_to("x")), len(states) - 1)
            return 0

        order = workspace.close_all(L, choose=choose)
        expected = [((0, 0, 0), (3, 3, 0))]
        for number, end in order:
            expected.append(apply_move(D, expected[-1], ("close", number, end)))
        self.assertEqual(states + [workspace.state()], expected)
        self.assertEqual(len(workspace), 2)

    def test_busy(self):
        workspace = Workspace(D, U)
        workspace.do(("slip", 1, 1, 1))
        workspace.save("x")
        calls = []

        def choose(sliders):
            before = snapshot(workspace)
            for function, value in ((workspace.do, ("close", 0, 1)), (workspace.do, None), (workspace.save, "y"),
                                    (workspace.save, 5), (workspace.close_all, L)):
                self.assert_raises(Busy(), function, value)
            self.assert_raises(Busy(), workspace.undo)
            self.assert_raises(Busy(), workspace.close_all, L, choose=choose)
            self.assertEqual(snapshot(workspace), before)
            calls.append(before)
            return 0

        self.assertEqual(workspace.close_all(L, choose=choose), [(0, 1), (0, 1), (1, 0)])
        self.assertEqual(len(calls), 3)
        workspace.save("y")
        workspace.undo()
        workspace.undo()
        self.assertEqual((workspace.state(), workspace.saved()), (U, ["x", "y"]))
        self.assert_raises(NothingToUndo(), workspace.undo)

    def test_busy_comes_before_nothing_to_undo(self):
        workspace = Workspace(D, U)

        def choose(sliders):
            self.assert_raises(Busy(), workspace.undo)
            return 0

        workspace.close_all(L, choose=choose)

    def test_clones_of_a_busy_workspace(self):
        workspace = Workspace(D, U)
        workspace.do(("slip", 1, 1, 1))
        clones = []

        def choose(sliders):
            clones.append(workspace.clone())
            self.assertEqual(clones[-1], workspace)
            early = workspace.clone()
            early.do(("close", *sliders[0]))
            early.save("y")
            early.close_all(((48, 48), (48, 48)))
            return 0

        workspace.close_all(L, choose=choose)
        self.assertEqual((len(workspace), workspace.saved()), (2, []))
        state = ((0, 0, 0), (3, 3, 0))
        for clone, slider in zip(clones, [(0, 1), (0, 1), (1, 0)]):
            self.assertEqual((clone.state(), len(clone)), (state, 1))
            state = apply_move(D, state, ("close", *slider))
            # The unfinished action is not in the history of the clone.
            clone.undo()
            self.assertEqual((clone.cloth(), clone.state(), len(clone)), (D, U, 0))
            self.assert_raises(NothingToUndo(), clone.undo)

    def test_a_clone_without_history(self):
        workspace = Workspace(D, U)
        clones = []
        workspace.close_all(L, choose=lambda sliders: clones.append(workspace.clone()) or 0)
        for clone in clones:
            self.assertEqual(len(clone), 0)
            self.assert_raises(NothingToUndo(), clone.undo)

    def test_a_choose_that_raises(self):
        for last in range(3):
            for kind in (ValueError, KeyboardInterrupt, errors.InvalidCommand, Busy, StopIteration):
                workspace = Workspace(D, U)
                workspace.do(("slip", 1, 1, 1))
                workspace.save("x")
                before = snapshot(workspace)
                calls = []

                def choose(sliders):
                    calls.append(sliders)
                    if len(calls) > last:
                        raise kind()
                    return 0

                with self.assertRaises(kind):
                    workspace.close_all(L, choose=choose)
                self.assertEqual(len(calls), last + 1)
                self.assertEqual(snapshot(workspace), before)
                # It is not busy any more.
                workspace.save("y")
                self.assertEqual(len(workspace.close_all(L)), 3)
                workspace.undo()
                workspace.undo()
                self.assertEqual(workspace.state(), U)

    def test_a_busy_error_of_its_own_comes_through(self):
        workspace = Workspace(D, U)
        before = snapshot(workspace)
        self.assert_raises(Busy(), workspace.close_all, L, choose=lambda sliders: workspace.do(("close", 0, 1)))
        self.assertEqual(snapshot(workspace), before)
        workspace.do(("close", 0, 1))

    def test_another_workspace_is_not_busy(self):
        first, second = Workspace(D, U), Workspace(D, U)

        def choose(sliders):
            second.do(("slip", 1, 1, -1 if len(second) % 2 else 1))
            return len(second.close_all(((0, 0), (0, 0))))

        first.close_all(L, choose=choose)
        self.assertEqual((len(first), len(second)), (1, 6))


class InvalidStateTest(unittest.TestCase):
    def test_values_that_are_no_state(self):
        for value in ODD_VALUES + (list(P), ((0, 0, 0),), ((0, False, 1),), ((3, 0, 1),), P + P, P[0], U):
            with self.subTest(value):
                with self.assertRaises(InvalidState):
                    Workspace(B, value)

    def test_a_cloth_without_states(self):
        cloth = two_rows("line", 1, "line", 1, "parallel", 2)
        for state in ((), ((0, 0, 2),), ((0, 0, 1),), S):
            with self.assertRaises(InvalidState):
                Workspace(cloth, state)


if __name__ == "__main__":
    unittest.main()
