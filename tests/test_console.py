import random
import unittest

from tests.samples import A, B, C, D, ODD_VALUES, P, R, S, T, U
from tests.test_costs import FAR, FAR_GOAL, FAR_START, FARTHER_GOAL
from tests.test_workspaces import RING, RING_STATE, expected_result, random_action, snapshot
from tests.worlds import large_cases
from zipslack import console
from zipslack.clamps import clamped_feet
from zipslack.cloths import Cloth
from zipslack.console import Console
from zipslack.errors import (ClothMismatch, IllegalMove, InvalidAction, InvalidCommand, LimitExceeded, NothingToUndo,
                             ParseError, UnknownName, UnknownRow, UnknownZip)
from zipslack.holes import slack
from zipslack.moves import legal_moves
from zipslack.paths import shortest_path
from zipslack.texts import format_cloth, format_move, format_state
from zipslack.workspaces import Workspace

A_COMMAND = "cloth line 4 0.0/line 5 0.1/parallel 0 | 0 1 2"
WORKSPACE_ERRORS = (InvalidAction, IllegalMove, UnknownRow, UnknownZip, LimitExceeded)


def cloth_command(cloth, state):
    return f"cloth {format_cloth(cloth)} | {format_state(state)}".replace("\n", "/")


def console_with(cloth, state):
    found = Console()
    found.run(cloth_command(cloth, state))
    return found


def action_command(action):
    words = list(map(str, action))
    return " ".join(words[:-1] + [{1: "up", -1: "down"}[action[-1]]] if action[0] == "slip" else words)


def listed(texts, separator=", "):
    return separator.join(texts) or "-"


class ConsoleCase(unittest.TestCase):
    def assert_raises(self, expected, found, command):
        """The command raises the error of this class and with these fields, and changes nothing."""
        before = snapshot(found.workspace())
        try:
            found.run(command)
        except Exception as error:
            self.assertEqual((type(error), vars(error)), (type(expected), vars(expected)), command)
        else:
            self.fail(f"nothing was raised for {command!r}")
        self.assertEqual(snapshot(found.workspace()), before, command)

    def assert_queries(self, found, cloth, state):
        """The commands that show something say what the functions say."""
        self.assertEqual(found.run("cloth"), format_cloth(cloth).replace("\n", "/"))
        self.assertEqual(found.run("state"), format_state(state))
        self.assertEqual(found.run("moves"), listed([format_move(move) for move in legal_moves(cloth, state)]))
        self.assertEqual(found.run("slack"), listed([f"{kind} {size}" for kind, size in slack(cloth, state)]))
        feet = [f"{number}.{side}" for number, side in clamped_feet(cloth, state)]
        self.assertEqual(found.run("clamped"), listed(feet, " "))


class ExamplesTest(ConsoleCase):
    def test_the_examples(self):
        self.assertEqual(Console().run("cloth"), "line 1")
        c = Console()
        self.assertEqual(c.run(A_COMMAND), "ok")
        self.assertEqual(c.workspace().state(), ((0, 1, 2),))
        self.assertEqual(c.run("moves"), "close 0 1, open 0 0, open 0 1")
        self.assertEqual(c.run("slack"), "imbalance 1, imbalance 0")
        self.assert_raises(InvalidCommand(), Console(), "stop")

    def test_arguments_by_name(self):
        self.assertEqual(Console().run(command="state"), "-")

    def test_methods_are_defined_in_the_class(self):
        self.assertIs(console.Console, Console)
        self.assertEqual(Console.__module__, "zipslack.console")
        for name in ("workspace", "run"):
            self.assertIn(name, vars(Console))


class NewConsoleTest(ConsoleCase):
    def test_the_first_workspace(self):
        found = Console()
        self.assertEqual(found.workspace(), Workspace(Cloth((("line", 1, ()),)), ()))
        self.assertEqual([found.run(word) for word in ("cloth", "state", "moves", "slack", "clamped")],
                         ["line 1", "-", "-", "imbalance 1", "-"])
        self.assert_raises(NothingToUndo(), found, "undo")
        self.assert_raises(UnknownName("a"), found, "path a")

    def test_two_consoles_share_nothing(self):
        first, second = Console(), Console()
        first.run("save a")
        first.run("join_ends 0")
        self.assertEqual((second.run("cloth"), second.workspace().saved(), len(second.workspace())), ("line 1", [], 0))

    def test_the_workspace_is_a_clone(self):
        found = console_with(A, S)
        found.run("close 0 1")
        found.run("save a")
        clone = found.workspace()
        self.assertEqual((clone.state(), len(clone), clone.saved()), (((0, 1, 3),), 1, ["a"]))
        clone.undo()
        clone.save("b")
        clone.do(("join_ends", 0))
        self.assertEqual((found.run("state"), found.run("cloth")), ("0 1 3", "line 4 0.0/line 5 0.1/parallel 0"))
        self.assertEqual(found.workspace().saved(), ["a"])
        self.assertIsNot(found.workspace(), found.workspace())


class CommandsTest(ConsoleCase):
    def test_each_action(self):
        found = console_with(A, S)
        for command, state in (("close 0 1", "0 1 3"), ("open 0 0", "1 2 2"), ("set_minimum 0 2", "1 2 2"),
                               ("set_minimum 0 0", "1 2 2"), ("open 0 0", "2 3 1"), ("open 0 1", "2 3 0"),
                               ("slip 0 0 down", "1 3 0"), ("slip 0 1 up", "1 4 0"), ("join_ends 1", "1 4 0"),
                               ("cut 1 0 1", "1 4 0"), ("add_zip reversed 0 1 0 1 0 2", "1 4 0 ; 1 2 0"),
                               ("remove_zip 0", "1 2 0"), ("undo", "1 4 0 ; 1 2 0")):
            self.assertEqual(found.run(command), "ok")
            self.assertEqual(found.run("state"), state, command)
        self.assertEqual(found.run("cloth"), "line 4 0.0 1.0/line 5 1.1 0.1/parallel 0/reversed 0")
        self.assertEqual(len(found.workspace()), 11)

    def test_saved_states(self):
        found = console_with(A, S)
        self.assertEqual(found.run("save x"), "ok")
        self.assertEqual((found.run("distance x"), found.run("path x")), ("0", "-"))
        found.run("close 0 1")
        self.assertEqual((found.run("distance x"), found.run("path x")), ("1", "open 0 1"))
        found.run("open 0 0")
        self.assertEqual(found.run("distance x"), "2")
        moves = [format_move(move) for move in shortest_path(A, ((1, 2, 2),), S)]
        self.assertEqual(found.run("path x"), ", ".join(moves))
        for command in ("distance y", "path y", "path line", "distance cloth"):
            self.assert_raises(UnknownName(command.split()[1]), found, command)
        found.run("set_minimum 0 1")
        for command in ("distance x", "path x"):
            self.assert_raises(ClothMismatch("x"), found, command)
        found.run("undo")
        self.assertEqual(found.run("distance x"), "2")

    def test_an_unreachable_state(self):
        found = console_with(B, P)
        found.run("save x")
        for command in ("set_minimum 0 0", "open 0 1", "slip 0 0 up", "close 0 1", "set_minimum 0 1"):
            found.run(command)
        self.assertEqual(found.workspace().state(), R)
        self.assertEqual((found.run("distance x"), found.run("path x")), ("none", "none"))

    def test_too_far(self):
        for goal, count in ((FAR_GOAL, 2000), (FARTHER_GOAL, 2001)):
            found = console_with(FAR, FAR_START)
            found.run("save here")
            for move in shortest_path(FAR, FAR_START, FAR_GOAL) + [("close", 3, 1)] * (count - 2000):
                found.run(format_move(move))
            self.assertEqual(found.run("distance here"), str(count))
            if count == 2000:
                self.assertEqual(found.run("path here").count(","), 1999)
            else:
                self.assert_raises(LimitExceeded(2000), found, "path here")

    def test_what_is_clamped(self):
        found = console_with(C, T)
        self.assertEqual((found.run("clamped"), found.run("moves")), ("0.0 0.1", "-"))

    def test_queries(self):
        for cloth, state in [(A, S), (B, P), (C, T), (D, U), (RING, RING_STATE)] + list(large_cases(81, 150, states=1)):
            self.assert_queries(console_with(cloth, state), cloth, state)

    def test_beside_a_workspace(self):
        """Random commands, each beside the same call of a workspace."""
        done = refused = 0
        for seed, (cloth, state) in enumerate(large_cases(82, 60, states=1)):
            source = random.Random(seed)
            found, workspace = console_with(cloth, state), Workspace(cloth, state)
            for step in range(25):
                action = random_action(workspace.cloth(), workspace.state(), source)
                if min([part for part in action if isinstance(part, int)][:-1] + [0]) < 0 or "up" in action:
                    continue
                if action[-1] not in (1, -1) if action[0] == "slip" else action[-1] < 0:
                    continue
                expected = expected_result(workspace.cloth(), workspace.state(), action)
                if isinstance(expected[0], str):
                    refused += 1
                    with self.assertRaises(WORKSPACE_ERRORS) as caught:
                        found.run(action_command(action))
                    with self.assertRaises(WORKSPACE_ERRORS) as direct:
                        workspace.do(action)
                    self.assertEqual(repr(caught.exception), repr(direct.exception))
                else:
                    done += 1
                    self.assertEqual(found.run(action_command(action)), "ok")
                    workspace.do(action)
                if step % 8 == 0:
                    self.assertEqual(found.run("save abc"), "ok")
                    workspace.save("abc")
                if step % 11 == 10 and len(workspace) > 0:
                    self.assertEqual(found.run("undo"), "ok")
                    workspace.undo()
                self.assertEqual((found.workspace(), len(found.workspace())), (workspace, len(workspace)))
            self.assertEqual(snapshot(found.workspace()), snapshot(workspace))
            self.assert_queries(found, workspace.cloth(), workspace.state())
        self.assertGreater(min(done, refused), 200)


class ClothCommandTest(ConsoleCase):
    def test_a_new_workspace(self):
        for cloth, state in [(A, S), (Cloth((("ring", 3, ()),)), ())] + list(large_cases(83, 100, states=1)):
            found = Console()
            found.run("save a")
            found.run("join_ends 0")
            self.assertEqual(found.run(cloth_command(cloth, state)), "ok")
            workspace = found.workspace()
            self.assertEqual((workspace.cloth(), workspace.state()), (cloth, state))
            self.assertEqual((len(workspace), workspace.saved()), (0, []))
            self.assert_raises(NothingToUndo(), found, "undo")
            self.assert_raises(UnknownName("a"), found, "distance a")

    def test_how_often_the_sign_stands_there(self):
        found = console_with(A, S)
        for text in ("", " ", "line 1", "line 1 |-", "line 1| -", "line 1|-", "line 1 |", "| -", "line 1 | - | -",
                     "line 1 |  | -", " |  | ", "line 1 / -", "line 1 | - | ", "|", "x | y | z", "line 1 || -"):
            self.assert_raises(InvalidCommand(), found, "cloth " + text)
        # Without overlaps the sign stands there once, and what is behind it is no state.
        self.assert_raises(ParseError(0), found, "cloth line 1 | | -")
        self.assertEqual(found.run("cloth line 1 | -"), "ok")

    def test_wrong_texts(self):
        found = console_with(A, S)
        found.run("close 0 1")
        found.run("save a")
        for text, line in (("line 0 | -", 1), ("x | -", 0), (" | ", 0), ("line 1/x | -", 1), ("line 1/ | -", 1),
                           ("line 4/parallel 0 | -", 2), ("line 1/line 1 0.0 | x", 2), ("line 1 | ", 0),
                           ("line 1 | x", 0), ("line 1 | 0 0 0", 0), ("line 01 | -", 0), (" line 1 | -", 0),
                           ("line 1  | -", 0), ("line 1 |  -", 0), ("line 1 | - ", 0), ("line 1 | -/", 0),
                           ("line 25 | 0 1 2", 1), ("parallel 0/line 1 | -", 1),
                           ("line 4 0.0/line 5 0.1/parallel 0 | 0 1 5", 0),
                           ("line 4 0.0/line 5 0.1/parallel 0 | 0 1 02", 0), (f"line {'9' * 1900} | -", 1),
                           ("line 4 0.0/line 5 0.1/parallel 3 | 0 1 2", 0),
                           ("line 4 0.0/line 5 0.1/parallel 0/ | 0 1 2", 3),
                           (f"line 4 0.0/line 5 0.1/parallel 0 | 0 1 {'2' * 1900}", 0), ("line 1//line 1 | -", 1)):
            with self.subTest(text):
                self.assert_raises(ParseError(line), found, "cloth " + text)

    def test_the_cloth_comes_first(self):
        self.assert_raises(ParseError(2), Console(), "cloth line 1/line 99 | nothing")
        self.assert_raises(ParseError(1), Console(), "cloth line 1/x | nothing")


class WrongCommandsTest(ConsoleCase):
    def test_values_that_are_no_strings(self):
        found = console_with(A, S)
        for value in ODD_VALUES + (b"state", ["state"], ("close", 0, 1), ("state",), 5):
            if not isinstance(value, str):
                with self.subTest(value):
                    self.assert_raises(InvalidCommand(), found, value)

    def test_words(self):
        found = console_with(A, ((1, 1, 0),))
        found.run("save x")
        for command in ("", " ", "stop", "State", "state ", " state", "state state", "moves 0", "undo 1", "undo ",
                        "clamped -", "slack 0", "state\n", "\nstate", "close\n0 1", "close 0 1\n", "close", "close 0",
                        "close 0 1 0", "close  0 1", "close 0  1", "close 0 1 ", " close 0 1", "close,0,1",
                        "close 0 x", "close 0 -1", "close 0 +1", "close 0 01", "close 00 1", "close 0 1.0",
                        "close 0 1_0", "close True 1", "close 0 up", "open 0", "open 0 -1", "slip 0 0", "slip 0 0 1",
                        "slip 0 0 -1", "slip 0 0 Up", "slip 0 0 upwards", "slip 0 0 up up", "slip 0 up 0",
                        "slip 00 0 up", "set_minimum 0", "set_minimum 0 -1", "set_minimum 0 0 0", "set_minimum",
                        "join_ends", "join_ends x", "join_ends 0 0", "join_ends -1", "cut 0 0", "cut 0 0 0 0",
                        "cut 0 0 -1", "add_zip parallel 0 0 0 0 0", "add_zip 0 0 0 0 0 0 0",
                        "add_zip parallel 0 0 0 0 0 0 0", "add_zip up 0 0 0 0 0 0", "add_zip Parallel 0 0 0 0 0 0",
                        "add_zip  0 0 0 0 0 0", "add_zip parallel 0 0 0 0 0 x", "remove_zip", "remove_zip a",
                        "remove_zip 0 0", "save", "save ", "save X", "save x1", "save abcdefghi", "save x y",
                        "save  x", "path", "path ", "path X", "path x y", "path abcdefghi", "path 0", "distance",
                        "distance ", "distance x ", "distance 5", "close_all", "close_all 1 1", "do close 0 1",
                        "clone", "saved", "cloth\n", "clothes", "cloth\nline 1 | -", "cloth line 1/\n | -", "0", "-",
                        "close\t0\t1"):
            with self.subTest(command):
                self.assert_raises(InvalidCommand(), found, command)

    def test_long_integers(self):
        found = console_with(A, ((1, 1, 0),))
        for digits in ("10000", "99999", "1" * 30, "1" * 1900):
            for command in ("close # 0", "close 0 #", "open 0 #", "slip # 0 up", "slip 0 # up", "set_minimum 0 #",
                            "set_minimum # 0", "join_ends #", "cut # 0 0", "cut 0 # 0", "cut 0 0 #", "remove_zip #",
                            "add_zip parallel # 0 0 0 0 0", "add_zip parallel 0 0 0 0 0 #"):
                self.assert_raises(InvalidCommand(), found, command.replace("#", digits))

    def test_integers_of_four_digits(self):
        found = console_with(A, ((1, 1, 0),))
        for command, expected in (("close 9999 0", IllegalMove(0)), ("open 0 9999", IllegalMove(0)),
                                  ("slip 9999 0 up", IllegalMove(0)), ("set_minimum 9999 0", UnknownZip(9999)),
                                  ("set_minimum 0 9999", InvalidAction()), ("join_ends 9999", UnknownRow(9999)),
                                  ("cut 1000 0 0", UnknownRow(1000)), ("cut 0 9999 0", InvalidAction()),
                                  ("remove_zip 1234", UnknownZip(1234)),
                                  ("add_zip parallel 0 0 0 9999 0 0", UnknownRow(9999)),
                                  ("add_zip parallel 0 9999 0 0 0 0", InvalidAction())):
            self.assert_raises(expected, found, command)

    def test_every_word_of_a_command_altered(self):
        commands = ("close 0 1", "open 0 1", "slip 0 1 up", "set_minimum 0 1", "join_ends 0", "cut 0 0 0",
                    "add_zip reversed 0 0 0 1 0 0", "remove_zip 0", "save x", "path x", "distance x", "undo", "state")
        for command in commands:
            words = command.split(" ")
            for at in range(len(words) + 1):
                for odd in ("", "00", "-1", "01", "10000", "Up", "x1", "UP", "1.0", "reversed ", "\n"):
                    for altered in (words[:at] + [odd] + words[at + 1:], words[:at] + [odd] + words[at:]):
                        with self.subTest(altered):
                            self.assert_raises(InvalidCommand(), console_with(A, ((1, 1, 0),)), " ".join(altered))

    def test_the_errors_of_the_workspace(self):
        found = console_with(A, S)
        found.run("save a")
        for command, expected in (("close 0 0", IllegalMove(0)), ("slip 0 0 up", IllegalMove(0)),
                                  ("undo", NothingToUndo()), ("remove_zip 0", InvalidAction()),
                                  ("set_minimum 0 3", InvalidAction()), ("join_ends 2", UnknownRow(2)),
                                  ("cut 0 0 0", InvalidAction()), ("add_zip parallel 2 0 0 3 0 0", UnknownRow(2)),
                                  ("path b", UnknownName("b")), ("add_zip parallel 0 0 1 0 0 0", InvalidAction())):
            self.assert_raises(expected, found, command)
        found = Console()
        for command in ("cloth ring 1/ring 1/line 1 | -", "save a"):
            found.run(command)
        self.assert_raises(LimitExceeded(2), found, "join_ends 2")
        for number in range(8):
            found.run("add_zip parallel 0 0 0 2 0 0")
        self.assert_raises(LimitExceeded(8), found, "add_zip parallel 0 0 0 2 0 0")


if __name__ == "__main__":
    unittest.main()
