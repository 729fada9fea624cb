import copy
import itertools
import unittest

from tests.samples import A, B, C, ODD_VALUES, P, Q, R, S, T, U
from tests.test_certificates import HELD_GOAL, UNREACHABLE
from tests.test_clamps import FULL, FULL_STATE, HELD, HELD_STATE
from tests.test_costs import FAR, FAR_GOAL, FAR_START, NO_ZIPS, sweep
from tests.test_windings import BOTH
from tests.travels import is_certificate
from tests.worlds import large_cases, one_row, two_rows
from zipslack import checker
from zipslack.certificates import certificate
from zipslack.checker import check
from zipslack.cloths import Cloth
from zipslack.costs import distance
from zipslack.errors import InvalidState
from zipslack.windings import constraints

BIG = 10 ** 29
HELD_UP = [(0, 1), (2, 0, 1), (1, 1), (2, 1, 1)]
HELD_DOWN = [(0, -1), (2, 1, -1), (1, -1), (2, 0, -1)]


def single_changes(value):
    """All values that differ from this one in one place."""
    if isinstance(value, (tuple, list)):
        yield list(value) if isinstance(value, tuple) else tuple(value)
        kind = type(value)
        for index in range(len(value)):
            yield value[:index] + value[index + 1:]
            yield value[:index] + value[index:index + 1] + value[index:]
            yield value[:index] + kind([None]) + value[index:]
            if index > 0:
                yield value[:index - 1] + value[index:index + 1] + value[index - 1:index] + value[index + 1:]
            for changed in single_changes(value[index]):
                yield value[:index] + kind([changed]) + value[index + 1:]
        yield value + kind([0])
    elif isinstance(value, str):
        yield from ("path", "unreachable", "offset", "foot", "close", "", 0, None)
    else:
        yield from (value + 1, value - 1, -value, bool(value), str(value), None, (value,), BIG, -BIG)


class CheckerCase(unittest.TestCase):
    def assert_judged(self, cloth, start, goal, value):
        """The answer is what the words of the document say."""
        before = copy.deepcopy(value)
        expected = is_certificate(cloth, start, goal, value)
        self.assertIs(check(cloth, start, goal, value), expected, (str(cloth), start, goal, value))
        self.assertEqual(repr(value), repr(before))
        return expected

    def assert_checks(self, expected, cloth, start, goal, value):
        with self.subTest(value):
            self.assertIs(self.assert_judged(cloth, start, goal, value), expected)


class ExamplesTest(unittest.TestCase):
    def test_the_examples(self):
        self.assertIs(check(B, P, R, ("unreachable", [(("offset", 0), 1, 3)], [])), True)

    def test_arguments_by_name(self):
        self.assertIs(check(value=("path", [], [((0, 0), 0)]), goal=S, start=S, cloth=A), True)

    def test_the_function_is_defined_in_its_file(self):
        self.assertIs(checker.check, check)
        self.assertEqual(check.__module__, "zipslack.checker")


class ReturnedTest(CheckerCase):
    def test_each_returned_certificate_is_accepted(self):
        for cloth, start, goal in itertools.chain(sweep(30), large_cases(41, 400), UNREACHABLE):
            if (distance(cloth, start, goal)[0] or 0) <= 2000:
                self.assertIs(check(cloth, start, goal, certificate(cloth, start, goal)), True)

    def test_for_other_states_it_is_not(self):
        accepted = 0
        for cloth, start, goal in itertools.chain(sweep(6), UNREACHABLE):
            value = certificate(cloth, start, goal)
            self.assert_judged(cloth, start, start, value)
            accepted += self.assert_judged(cloth, goal, start, value) and start != goal
        self.assertGreater(accepted, 0)


class PathTest(CheckerCase):
    def test_other_shortest_paths(self):
        cloth = two_rows("line", 9, "line", 9)
        start, goal = ((2, 2, 2),), ((1, 1, 4),)
        for moves in itertools.permutations([("close", 0, 0), ("close", 0, 1)]):
            self.assert_checks(True, cloth, start, goal, ("path", list(moves), [((0, 0), 2)]))
        start, goal = ((2, 2, 0),), ((3, 4, 0),)
        for moves in set(itertools.permutations([("slip", 0, 0, 1), ("slip", 0, 1, 1), ("slip", 0, 1, 1)])):
            self.assert_checks(True, cloth, start, goal, ("path", list(moves), [((0, 0), 3)]))

    def test_paths_with_other_windings(self):
        cloth = two_rows("ring", 4, "line", 3)
        table = [((-1, 0), 2), ((0, 0), 2)]
        for step in (1, -1):
            moves = [("slip", 0, 0, step)] * 2
            self.assert_checks(True, cloth, ((0, 0, 0),), ((2, 0, 0),), ("path", moves, table))

    def test_moves(self):
        crawl = [("close", 0, 1), ("open", 0, 0)]
        table = [((1, 0), 6)]
        self.assert_checks(True, B, P, Q, ("path", crawl * 3, table))
        self.assert_checks(True, B, P, Q, ("path", [crawl[0]] * 2 + [crawl[1]] * 2 + crawl, table))
        for moves in (crawl * 2, crawl * 4, crawl * 3 + [("close", 0, 0)], crawl[::-1] * 3, [], crawl[:1] * 6,
                      [("close", 0, 1), ("open", 0, 1)] + crawl * 3, crawl * 3 + [("close", 0, 0), ("open", 0, 0)],
                      tuple(crawl * 3), [list(move) for move in crawl * 3], crawl * 2 + [("close", 0, True), crawl[1]],
                      crawl * 3 + [None], None, "moves"):
            self.assert_checks(False, B, P, Q, ("path", moves, table))

    def test_pairs_of_moves_that_cancel(self):
        # The table for two more moves has no total below their number only if it leaves one out.
        for cloth, start, goal in sweep(3):
            value = certificate(cloth, start, goal)
            if value[0] == "path":
                for pair in ([("close", 0, 1), ("open", 0, 1)], [("open", 0, 0), ("close", 0, 0)],
                             [("slip", 0, 0, 1), ("slip", 0, 0, -1)]):
                    for table in (value[2], certificate(cloth, start, start)[2], []):
                        self.assertFalse(self.assert_judged(cloth, start, goal, ("path", value[1] + pair, table)))

    def test_a_long_detour(self):
        # Here the windings with a lower bound up to the number of moves are far too many to list.
        cloth = two_rows("ring", 1, "ring", 1)
        there, back = ("slip", 0, 0, 1), ("slip", 0, 0, -1)
        state = ((0, 0, 0),)
        table = certificate(cloth, state, state)[2]
        self.assertIs(check(cloth, state, state, ("path", [], table)), True)
        self.assertIs(check(cloth, state, state, ("path", [there, back] * 1400, table)), False)
        self.assertIs(check(cloth, state, state, ("path", [there] * 2900, table)), False)

    def test_tables(self):
        cloth = two_rows("ring", 3, "ring", 4)
        state = ((1, 2, 2),)
        table = certificate(cloth, state, state)[2]
        self.assertEqual(len(table), 9)
        self.assert_checks(True, cloth, state, state, ("path", [], table))
        self.assert_checks(True, cloth, state, state, ("path", [], [(winding, total) for winding, total in table]))
        for index in range(9):
            self.assert_checks(False, cloth, state, state, ("path", [], table[:index] + table[index + 1:]))
            self.assert_checks(False, cloth, state, state, ("path", [], table[:index] + table[index:] + table[index:]))
            winding, total = table[index]
            for entry in ((winding, total + 1), (winding, -1), (winding,), (winding, total, 0), [winding, total],
                          (list(winding), total), (winding + (0,), total), (winding, str(total)), (winding, None)):
                altered = table[:index] + [entry] + table[index + 1:]
                self.assert_checks(False, cloth, state, state, ("path", [], altered))
        self.assert_checks(False, cloth, state, state, ("path", [], table[::-1]))
        self.assert_checks(False, cloth, state, state, ("path", [], table + [((2, 0), 12)]))
        self.assert_checks(False, cloth, state, state, ("path", [], tuple(table)))

    def test_an_entry_that_is_not_admissible(self):
        moves = certificate(B, P, Q)[1]
        for table in ([((0, 0), 5), ((1, 0), 6)], [((1, 0), 6), ((2, 0), 9)], [((1, 0), 6), ((1, 1), 6)]):
            self.assert_checks(False, B, P, Q, ("path", moves, table))

    def test_booleans(self):
        self.assert_checks(True, A, S, S, ("path", [], [((0, 0), 0)]))
        for table in ([((False, 0), 0)], [((0, False), 0)], [((0, 0), False)]):
            self.assert_checks(False, A, S, S, ("path", [], table))
        moves = certificate(B, P, Q)[1]
        self.assert_checks(False, B, P, Q, ("path", moves, [((True, 0), 6)]))
        self.assert_checks(False, B, P, Q, ("path", [("close", False, 1)] + moves[1:], [((1, 0), 6)]))

    def test_2000_moves(self):
        value = certificate(FAR, FAR_START, FAR_GOAL)
        kind, moves, table = value
        self.assertIs(check(FAR, FAR_START, FAR_GOAL, value), True)
        detour = [("close", 0, 1), ("open", 0, 1)]
        for altered in (moves[:-1], moves + moves[-1:], moves[1:], moves[::-1], moves + detour, detour + moves):
            self.assertIs(check(FAR, FAR_START, FAR_GOAL, ("path", altered, table)), False)
        for altered in (table[1:], table[:-1], table + table[-1:], table[::-1]):
            self.assertIs(check(FAR, FAR_START, FAR_GOAL, ("path", moves, altered)), False)


class UnreachableTest(CheckerCase):
    def test_fractions(self):
        for numerator, denominator in ((1, 3), (-1, 3), (2, 3), (4, 3), (10, 30), (-7, 3), (BIG - BIG % 3 + 1, 3)):
            self.assert_checks(True, B, P, R, ("unreachable", [(("offset", 0), numerator, denominator)], []))
        for numerator, denominator in ((0, 1), (1, 1), (3, 3), (1, 2), (1, 6), (1, 0), (1, -3), (-1, -3), (0, 3),
                                       (1, 9), (BIG - BIG % 3, 3), (1, BIG)):
            self.assert_checks(False, B, P, R, ("unreachable", [(("offset", 0), numerator, denominator)], []))

    def test_wrong_numbers(self):
        for part in ((("offset", 0), True, 3), (("offset", 0), 1, True), (("offset", False), 1, 3),
                     (("offset", 0), "1", 3), (("offset", 0), 1), (("offset", 0), 1, 3, 0), [("offset", 0), 1, 3],
                     (["offset", 0], 1, 3), None, (("offset", 0), None, 3), (("offset", 0), 1, (3,)),
                     ("offset", 0, 1, 3), (("offset",), 1, 3)):
            self.assert_checks(False, B, P, R, ("unreachable", [part], []))

    def test_names(self):
        for name in (("offset", 1), ("offset", -1), ("foot", 0, 0), ("foot", 0), ("offset", 0, 0), ("feet", 0), (0, 0),
                     "offset", None, (), ("offset", "0"), ("offset", (0,)), ((("offset", 0)),), ("offset", BIG)):
            expected = name == ("offset", 0)
            self.assert_checks(expected, B, P, R, ("unreachable", [(name, 1, 3)], []))
        self.assert_checks(False, B, P, R, ("unreachable", [(("foot", 0, 0), 1, 3)], [[(0, 1)]]))
        # A zip that is not bound has no constraint.
        self.assert_checks(False, A, S, ((0, 0, 2),), ("unreachable", [(("offset", 0), 1, 2)], []))

    def test_no_parts(self):
        self.assert_checks(False, B, P, R, ("unreachable", [], []))
        self.assert_checks(False, NO_ZIPS, (), (), ("unreachable", [], []))

    def test_duplicate_names(self):
        for parts in ([(("offset", 0), 1, 3)] * 2, [(("offset", 0), 1, 3), (("offset", 0), 0, 1)],
                      [(("offset", 0), 2, 3), (("offset", 0), -1, 3)]):
            self.assert_checks(False, B, P, R, ("unreachable", parts, []))

    def test_several_parts_in_any_order(self):
        cloth, start, goal = UNREACHABLE[7]
        self.assertEqual(constraints(cloth, start, goal), [(("offset", 0), (-4, 6), 2), (("offset", 1), (4, 6), 4)])
        good = [(("offset", 0), 1, 4), (("offset", 1), 1, 4)]
        for parts in (good, good[::-1], [(name, -1, 4) for name, numerator, denominator in good],
                      [(("offset", 0), 3, 12), (("offset", 1), 2, 8)], [(("offset", 0), 5, 4), (("offset", 1), 1, 4)]):
            self.assert_checks(True, cloth, start, goal, ("unreachable", parts, []))
        for parts in (good[:1], good[1:], [(("offset", 0), 1, 2), (("offset", 1), 1, 2)],
                      [(("offset", 0), 1, 4), (("offset", 1), 1, 3)], [(("offset", 0), 1, 4), (("offset", 1), 3, 5)]):
            self.assert_checks(False, cloth, start, goal, ("unreachable", parts, []))

    def test_a_clamped_foot_on_a_line(self):
        # The coefficients are all 0, so every fraction will do that leaves no integer.
        for numerator, denominator in ((1, 2), (1, 3), (-5, 2), (1, BIG)):
            for cycle in ([(0, 1)], [(0, -1)]):
                value = ("unreachable", [(("foot", 0, 1), numerator, denominator)], [cycle])
                self.assert_checks(True, C, T, ((1, 1, 2),), value)
        for numerator, denominator in ((1, 1), (2, 2), (0, 5)):
            value = ("unreachable", [(("foot", 0, 1), numerator, denominator)], [[(0, 1)]])
            self.assert_checks(False, C, T, ((1, 1, 2),), value)

    def test_cycles(self):
        part = (("foot", 0, 0), 1, 2)
        for cycle in (HELD_UP, HELD_DOWN):
            for at in range(4):
                turned = cycle[at:] + cycle[:at]
                self.assert_checks(True, HELD, HELD_STATE, HELD_GOAL, ("unreachable", [part], [turned]))
                for wrong in (turned[::-1], turned[1:], turned * 2, tuple(turned), turned + [None], []):
                    self.assert_checks(False, HELD, HELD_STATE, HELD_GOAL, ("unreachable", [part], [wrong]))
        for cycles in ([], [HELD_UP, HELD_UP], [[HELD_UP]], HELD_UP, (HELD_UP,), [None], None, [HELD_UP, None]):
            self.assert_checks(False, HELD, HELD_STATE, HELD_GOAL, ("unreachable", [part], cycles))

    def test_a_cycle_contains_a_mover_of_the_foot(self):
        rows = (("ring", 2, ((0, 0),)), ("line", 6, ((0, 1), (1, 0))), ("ring", 3, ((1, 1),)))
        cloth = Cloth(rows, (("parallel", 2), ("parallel", 3)))
        start, goal = ((0, 0, 2), (2, 0, 3)), ((0, 1, 2), (3, 0, 3))
        self.assert_checks(True, cloth, start, goal, ("unreachable", [(("foot", 0, 1), 1, 2)], [[(0, 1)]]))
        self.assert_checks(False, cloth, start, goal, ("unreachable", [(("foot", 0, 1), 1, 2)], [[(1, 1)]]))
        self.assert_checks(True, cloth, start, goal, ("unreachable", [(("foot", 1, 0), 1, 2)], [[(1, 1)]]))
        both = [(("foot", 1, 0), 1, 2), (("offset", 0), 1, 1), (("foot", 0, 1), 1, 1)]
        self.assert_checks(True, cloth, start, goal, ("unreachable", both, [[(1, 1)], [(0, -1)]]))
        self.assert_checks(False, cloth, start, goal, ("unreachable", both, [[(0, 1)], [(1, -1)]]))
        self.assert_checks(False, cloth, start, goal, ("unreachable", both, [[(1, 1)]]))
        # A foot whose fraction is 0 needs its cycle, too.
        idle = [(("offset", 0), 1, 2), (("foot", 1, 1), 0, 1)]
        for cycles in ([], [[(1, 1)]], [[(0, 1)]], [[(1, 1)], [(1, 1)]]):
            self.assert_judged(cloth, start, goal, ("unreachable", idle, cycles))

    def test_only_one_foot_of_an_open_zip(self):
        goal = ((0, 0, 2), (2, 2, 0))
        for side, cycle, expected in ((0, [(0, 1), (1, 0, 1)], False), (1, [(0, 1), (1, 0, 1)], False)):
            value = ("unreachable", [(("foot", 1, side), 1, 2)], [cycle])
            self.assert_checks(expected, FULL, FULL_STATE, goal, value)
        moved = ((1, 1, 2), (3, 3, 0))
        value = ("unreachable", [(("foot", 1, 0), 1, 2)], [[(0, 1), (1, 0, 1)]])
        self.assert_checks(True, FULL, FULL_STATE, moved, value)
        self.assert_checks(False, FULL, FULL_STATE, moved, ("unreachable", [(("foot", 1, 1), 1, 2)], value[2]))

    def test_where_there_is_a_path(self):
        for cloth, start, goal in ((B, P, Q), (BOTH, ((0, 0, 1), (2, 3, 1)), ((0, 0, 1), (2, 3, 1)))):
            for numerator, denominator in itertools.product(range(-3, 4), range(1, 13)):
                value = ("unreachable", [(("offset", 0), numerator, denominator)], [])
                self.assert_checks(False, cloth, start, goal, value)


class SingleChangesTest(CheckerCase):
    """Every value that differs in one place from a certificate."""

    def test_unreachable(self):
        judged = []
        for cloth, start, goal in UNREACHABLE:
            for value in single_changes(certificate(cloth, start, goal)):
                judged.append(self.assert_judged(cloth, start, goal, value))
        self.assertGreater(judged.count(True), 10)
        self.assertGreater(judged.count(False), 1000)

    def test_paths(self):
        cloth = two_rows("ring", 3, "ring", 4)
        slack_ring = one_row("ring", 4, "reversed")
        judged = []
        for case in ((B, P, Q), (A, S, S), (cloth, ((1, 2, 2),), ((2, 2, 1),)),
                     (slack_ring, ((0, 2, 1),), ((1, 3, 1),)), (A, ((1, 1, 0),), ((2, 3, 1),)), (NO_ZIPS, (), ())):
            for value in single_changes(certificate(*case)):
                judged.append(self.assert_judged(*case, value))
        self.assertGreater(judged.count(True), 0)
        self.assertGreater(judged.count(False), 1000)

    def test_sampled_cases(self):
        for cloth, start, goal in itertools.islice(sweep(2), 0, None, 2):
            value = certificate(cloth, start, goal)
            if len(value[1]) + len(value[2]) < 30:
                for changed in itertools.islice(single_changes(value), 0, None, 17):
                    self.assert_judged(cloth, start, goal, changed)


class AnyValueTest(CheckerCase):
    def test_values_that_are_no_certificate(self):
        odd = ((), ("path",), ("path", []), ("path", [], [], []), ["path", [], [((0, 0), 0)]], ("PATH", [], []), "path",
               ("path", [], None), ("path", None, []), ("path", (), []), ("unreachable", None, None), (None, [], []),
               ("", [], []), (("path",), [], [((0, 0), 0)]), (True, [], []), ("unreachable", [], None),
               ("path", [], {}), ("unreachable", [[]], [[]]), ("unreachable", [()], [()]), ("path", [[]], [[]]),
               ("path", [()], [()]))
        for value in odd + ODD_VALUES:
            with self.subTest(value):
                for cloth, start, goal in ((A, S, S), (B, P, R), (C, T, ((1, 1, 2),)), (NO_ZIPS, (), ())):
                    self.assertIs(check(cloth, start, goal, value), False)

    def test_deep_values(self):
        deep = [[[[[[[["x"]]]]]]]]
        for value in (("path", deep, deep), ("unreachable", deep, deep), ("path", [], [deep]), (deep, deep, deep),
                      ("unreachable", [(("offset", 0), 1, 3)], [deep]), ("unreachable", [(deep, 1, 3)], []),
                      ("unreachable", [(("offset", deep), 1, 3)], []), ("path", [("close", deep, 1)], [])):
            before = copy.deepcopy(value)
            self.assertIs(check(B, P, R, value), False)
            self.assertEqual(value, before)

    def test_long_values(self):
        self.assertIs(check(B, P, R, ("unreachable", [(("offset", 0), 1, 3)] * 900, [])), False)
        self.assertIs(check(B, P, Q, ("path", [("close", 0, 1), ("open", 0, 1)] * 400, [])), False)
        self.assertIs(check(A, S, S, ("path", [], [((0, 0), 0)] * 900)), False)


class InvalidStateTest(unittest.TestCase):
    def test_values_that_are_no_state(self):
        for value in ODD_VALUES + (list(P), ((0, 0, 0),), ((0, False, 1),), ((3, 0, 1),), P + P, P[0], U):
            with self.subTest(value):
                for start, goal in ((value, P), (P, value), (value, value), (value, R)):
                    for claim in (("path", [], [((0, 0), 0)]), None, ("unreachable", [(("offset", 0), 1, 3)], [])):
                        with self.assertRaises(InvalidState):
                            check(B, start, goal, claim)


if __name__ == "__main__":
    unittest.main()
