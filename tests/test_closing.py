import itertools
import random
import unittest

from tests.samples import A, B, C, D, ODD_VALUES, P, S, T, U
from tests.worlds import (DIRECTIONS, SORTS, crowded_case, large_cases, one_row, random_cloth, random_state, states_of,
                          two_rows)
from zipslack import closing
from zipslack.closing import close_ranges, order_for, order_for_total, total_range
from zipslack.cloths import Cloth
from zipslack.errors import InvalidState, UnreachableCount
from zipslack.moves import apply_move, is_legal
from zipslack.states import is_state

L = ((0, 2), (2, 0))
NO_ZIPS = Cloth((("line", 4, ()), ("ring", 3, ())))
# Three zips between three lines, each beside the next one: the sliders form a cycle around the middle.
TRIANGLE = Cloth(
    (("line", 9, ((0, 0), (1, 0))), ("line", 9, ((1, 1), (2, 0))), ("line", 9, ((2, 1), (0, 1)))),
    (("reversed", 0), ("reversed", 0), ("reversed", 0)),
)


def sliders_of(cloth):
    return [(number, end) for number in range(len(cloth)) for end in (0, 1)]


def closable(cloth, state, limits, counts):
    return [(number, end) for number, end in sliders_of(cloth)
            if counts[(number, end)] < limits[number][end] and is_legal(cloth, state, ("close", number, end))]


def all_ends(cloth, state, limits):
    """How often each slider is closed at the end, for all orders, or None if there are too many."""
    sliders = sliders_of(cloth)
    ends = set()
    seen = {(0,) * len(sliders): state}
    waiting = [(0,) * len(sliders)]
    while waiting:
        counts = waiting.pop()
        found = closable(cloth, seen[counts], limits, dict(zip(sliders, counts)))
        if not found:
            ends.add(counts)
        for number, end in found:
            further = tuple(count + (slider == (number, end)) for slider, count in zip(sliders, counts))
            if further not in seen:
                seen[further] = apply_move(cloth, seen[counts], ("close", number, end))
                waiting.append(further)
        if len(seen) > 3000:
            return None
    return ends


def limits_for(cloth, source, most):
    return tuple((source.randint(0, most), source.randint(0, most)) for number in range(len(cloth)))


def unlimited(cloth):
    return ((48, 48),) * len(cloth)


class ClosingCase(unittest.TestCase):
    def assert_order(self, cloth, state, limits, order):
        """The order is legal, keeps the limits and goes on until no slider can be closed. Returns the counts."""
        self.assertIs(type(order), list)
        counts = dict.fromkeys(sliders_of(cloth), 0)
        for slider in order:
            self.assertIn(slider, closable(cloth, state, limits, counts), (str(cloth), state, limits, order))
            self.assertIs(type(slider), tuple)
            state = apply_move(cloth, state, ("close", *slider))
            counts[slider] += 1
        self.assertEqual(closable(cloth, state, limits, counts), [], (str(cloth), state, limits, order))
        return counts

    def assert_every_count(self, cloth, state, limits):
        """There is an order for every count within the ranges, and none for the counts outside."""
        for number, ends in enumerate(close_ranges(cloth, state, limits)):
            for end, (least, most) in enumerate(ends):
                for count in range(least, most + 1):
                    order = order_for(cloth, state, limits, number=number, end=end, count=count)
                    self.assertEqual(self.assert_order(cloth, state, limits, order)[(number, end)], count)
                for count in (least - 1, most + 1, -1, -10 ** 29, 10 ** 29):
                    self.assert_unreachable(count, order_for, cloth, state, limits, number=number, end=end)
        least, most = total_range(cloth, state, limits)
        for count in range(least, most + 1):
            order = order_for_total(cloth, state, limits, count=count)
            self.assertEqual(sum(self.assert_order(cloth, state, limits, order).values()), count)
            self.assertEqual(len(order), count)
        for count in (least - 1, most + 1, -1, -10 ** 29, 10 ** 29):
            self.assert_unreachable(count, order_for_total, cloth, state, limits)

    def assert_unreachable(self, count, function, *arguments, **named):
        with self.assertRaises(UnreachableCount) as caught:
            function(*arguments, **named, count=count)
        self.assertEqual(caught.exception.count, count)

    def assert_all_orders(self, cloth, state, limits):
        """The ranges are those of all orders, without a hole in them. Returns whether all orders could be looked at."""
        ends = all_ends(cloth, state, limits)
        if ends is None:
            return False
        flat = [found for entry in close_ranges(cloth, state, limits) for found in entry]
        for index, (least, most) in enumerate(flat):
            self.assertEqual(sorted({counts[index] for counts in ends}), list(range(least, most + 1)),
                             (str(cloth), state, limits, index))
        least, most = total_range(cloth, state, limits)
        self.assertEqual(sorted({sum(counts) for counts in ends}), list(range(least, most + 1)),
                         (str(cloth), state, limits))
        return True


class ExamplesTest(ClosingCase):
    def test_the_examples(self):
        self.assertEqual(close_ranges(D, U, L), (((0, 0), (1, 2)), ((1, 2), (0, 0))))
        self.assertEqual(sorted(order_for(D, U, L, number=0, end=1, count=1)), [(0, 1), (1, 0), (1, 0)])
        self.assert_unreachable(0, order_for, D, U, L, number=0, end=1)
        self.assertEqual(total_range(D, U, L), (3, 3))
        self.assertEqual(len(order_for_total(D, U, L, count=3)), 3)

    def test_arguments_by_name(self):
        self.assertEqual(close_ranges(limits=L, state=U, cloth=D), close_ranges(D, U, L))
        self.assertEqual(total_range(limits=L, state=U, cloth=D), (3, 3))
        self.assertEqual(len(order_for_total(count=3, limits=L, state=U, cloth=D)), 3)
        self.assertEqual(order_for(count=2, end=1, number=0, limits=L, state=U, cloth=D),
                         order_for(D, U, L, number=0, end=1, count=2))

    def test_parameters_behind_a_star(self):
        for arguments in ((D, U, L, 0, 1, 1), (D, U, L, 0, 1), (D, U, L, 0)):
            with self.assertRaises(TypeError):
                order_for(*arguments)
        with self.assertRaises(TypeError):
            order_for_total(D, U, L, 3)

    def test_functions_are_defined_in_their_file(self):
        for name in ("close_ranges", "order_for", "total_range", "order_for_total"):
            self.assertEqual(getattr(closing, name).__module__, "zipslack.closing")


class ShapesTest(ClosingCase):
    def assert_closing(self, cloth, state, limits, ranges, total):
        self.assertEqual(close_ranges(cloth, state, limits), ranges)
        self.assertEqual(total_range(cloth, state, limits), total)
        self.assert_all_orders(cloth, state, limits)
        self.assert_every_count(cloth, state, limits)

    def test_no_zips(self):
        self.assert_closing(NO_ZIPS, (), (), (), (0, 0))

    def test_both_ends_on_lines(self):
        for count in (0, 2):
            cloth = two_rows("line", 9, "line", 8)
            self.assert_closing(cloth, ((3, 2, count),), ((48, 48),), (((2, 2), (6 - count,) * 2),), (8 - count,) * 2)
            self.assert_closing(cloth, ((3, 2, count),), ((1, 3),), (((1, 1), (3, 3)),), (4, 4))
            cloth = two_rows("line", 9, "line", 8, "reversed")
            ranges = (((3, 3), (2, 2)),)
            self.assert_closing(cloth, ((3, 2, count),), ((48, 48),), ranges, (5, 5))

    def test_both_ends_on_a_ring(self):
        # The gap of the ring is beside both sliders, and they share it.
        self.assert_closing(two_rows("ring", 5, "line", 9), ((0, 3, 1),), ((48, 48),), (((0, 3), (1, 4)),), (4, 4))
        self.assert_closing(two_rows("ring", 5, "line", 9), ((0, 3, 1),), ((2, 48),), (((0, 2), (2, 4)),), (4, 4))
        self.assert_closing(two_rows("ring", 5, "ring", 4), ((0, 3, 1),), ((48, 48),), (((0, 3), (0, 3)),), (3, 3))
        self.assert_closing(two_rows("ring", 5, "ring", 4, "reversed"), ((0, 3, 1),), ((1, 48),),
                            (((0, 1), (2, 3)),), (3, 3))

    def test_a_gap_beside_both_feet_of_a_slider(self):
        for size in range(7):
            cloth = one_row("line", 2 + size, "reversed")
            self.assert_closing(cloth, ((0, 1 + size, 1),), ((48, 48),), (((0, 0), (size // 2,) * 2),),
                                (size // 2,) * 2)
            self.assert_closing(cloth, ((0, 1 + size, 1),), ((48, 1),), (((0, 0), (min(1, size // 2),) * 2),),
                                (min(1, size // 2),) * 2)
            ring = one_row("ring", 4 + size, "reversed")
            self.assert_closing(ring, ((0, 1 + size, 1),), ((48, 48),), (((1, 1), (size // 2,) * 2),),
                                (1 + size // 2,) * 2)

    def test_the_same_row_twice(self):
        # The gap in the middle is beside both sliders of a parallel zip.
        self.assert_closing(one_row("line", 9), ((2, 5, 1),), ((48, 48),), (((0, 2), (0, 2)),), (2, 2))
        self.assert_closing(one_row("ring", 9), ((2, 5, 1),), ((48, 48),), (((0, 2), (0, 2)),), (2, 2))

    def test_a_chain(self):
        cloth = Cloth((("line", 4, ((0, 0), (1, 0))), ("line", 4, ((1, 1), (2, 0))), ("line", 9, ((0, 1), (2, 1)))),
                      (("parallel", 0), ("reversed", 0), ("parallel", 0)))
        state = ((0, 0, 1), (3, 1, 1), (3, 8, 1))
        self.assert_closing(cloth, state, unlimited(cloth), close_ranges(cloth, state, unlimited(cloth)),
                            total_range(cloth, state, unlimited(cloth)))
        self.assertNotEqual(*total_range(cloth, state, unlimited(cloth)))

    def test_a_cycle(self):
        state = ((1, 5, 1), (6, 1, 1), (6, 1, 1))
        limits = ((0, 48), (48, 0), (0, 0))
        self.assert_closing(TRIANGLE, state, limits, close_ranges(TRIANGLE, state, limits),
                            total_range(TRIANGLE, state, limits))
        inner = unlimited(TRIANGLE)
        self.assert_closing(TRIANGLE, state, inner, close_ranges(TRIANGLE, state, inner),
                            total_range(TRIANGLE, state, inner))

    def test_no_room(self):
        self.assert_closing(C, T, ((48, 48),), (((0, 0), (0, 0)),), (0, 0))
        self.assertEqual(order_for(C, T, ((48, 48),), number=0, end=1, count=0), [])
        self.assertEqual(order_for_total(C, T, ((48, 48),), count=0), [])

    def test_limits_of_0(self):
        self.assert_closing(A, S, ((0, 0),), (((0, 0), (0, 0)),), (0, 0))
        self.assert_closing(A, S, ((0, 1),), (((0, 0), (1, 1)),), (1, 1))


class AllOrdersTest(ClosingCase):
    def test_one_zip(self):
        for sort0, sort1, direction in itertools.product(SORTS, SORTS, DIRECTIONS):
            cloth = two_rows(sort0, 4, sort1, 3, direction)
            for state in states_of(cloth)[::2]:
                for limits in (((1, 2),), ((48, 48),), ((0, 3),)):
                    self.assertTrue(self.assert_all_orders(cloth, state, limits))
                    self.assert_every_count(cloth, state, limits)
        for sort, direction in itertools.product(SORTS, DIRECTIONS):
            for feet in (((0, 0), (0, 1)), ((0, 1), (0, 0))):
                cloth = one_row(sort, 6, direction, 0, feet)
                for state in states_of(cloth)[::3]:
                    self.assertTrue(self.assert_all_orders(cloth, state, ((48, 48),)))
                    self.assert_every_count(cloth, state, ((48, 2),))

    def test_several_zips(self):
        looked = wide = 0
        for seed in range(350):
            source = random.Random(seed)
            cloth, state = crowded_case(source)
            self.assertTrue(is_state(cloth, state))
            limits = limits_for(cloth, source, source.choice((1, 2, 48)))
            if self.assert_all_orders(cloth, state, limits):
                looked += 1
                least, most = total_range(cloth, state, limits)
                wide += least < most
            self.assert_every_count(cloth, state, limits)
        self.assertGreater(looked, 300)
        self.assertGreater(wide, 40)

    def test_roomy_cloths(self):
        looked = 0
        for seed in range(500):
            source = random.Random(seed)
            cloth = random_cloth(seed, source.choice((3, 5, 7)), 3)
            state = random_state(cloth, source)
            if state is not None and len(cloth) > 1:
                limits = limits_for(cloth, source, source.choice((1, 2, 4, 48)))
                looked += self.assert_all_orders(cloth, state, limits)
                self.assert_every_count(cloth, state, limits)
        self.assertGreater(looked, 60)


class LargeTest(ClosingCase):
    def test_large_cloths(self):
        source = random.Random(51)
        for cloth, state in large_cases(52, 150, states=1):
            self.assert_every_count(cloth, state, limits_for(cloth, source, 48))
            self.assert_every_count(cloth, state, unlimited(cloth))

    def test_eight_zips_between_two_rings(self):
        for directions in (("parallel",) * 8, ("reversed",) * 8, ("parallel", "reversed") * 4):
            feet0 = tuple((number, 0) for number in range(8))
            feet1 = tuple((number, 1) for number in range(8))
            for order in (feet1, feet1[::-1], feet1[3:] + feet1[:3]):
                cloth = Cloth((("ring", 24, feet0), ("ring", 23, order)),
                              tuple((direction, 0) for direction in directions))
                low = {foot: 2 * at for at, foot in enumerate(order)}
                state = tuple((3 * number, low[(number, 1)], number % 2) for number in range(8))
                self.assert_every_count(cloth, state, unlimited(cloth))
                self.assert_every_count(cloth, state, ((1, 2),) * 8)

    def test_everything_in_one_gap(self):
        cloth = two_rows("ring", 24, "ring", 24)
        self.assertEqual(close_ranges(cloth, ((0, 0, 0),), ((48, 48),)), (((0, 24), (0, 24)),))
        self.assertEqual(close_ranges(cloth, ((0, 0, 0),), ((20, 10),)), (((14, 20), (4, 10)),))
        self.assertEqual(total_range(cloth, ((0, 0, 0),), ((20, 10),)), (24, 24))
        self.assertEqual(total_range(cloth, ((0, 0, 0),), ((9, 10),)), (19, 19))


class ResultsTest(ClosingCase):
    def test_returned_lists_belong_to_the_caller(self):
        for function, named in ((order_for, {"number": 0, "end": 1, "count": 1}), (order_for_total, {"count": 3})):
            first = function(D, U, L, **named)
            expected = list(first)
            first.clear()
            self.assertEqual(function(D, U, L, **named), expected)

    def test_kinds_of_values(self):
        self.assertEqual([type(part) for part in close_ranges(D, U, L)], [tuple, tuple])
        self.assertEqual([type(total_range(D, U, L)), type(total_range(D, U, L)[0])], [tuple, int])

    def test_the_arguments_stay(self):
        limits = ((0, 2), (2, 0))
        order_for(D, U, limits, number=0, end=1, count=1)
        order_for_total(D, U, limits, count=3)
        self.assertEqual((limits, U), (((0, 2), (2, 0)), ((0, 0, 0), (3, 2, 0))))


class InvalidStateTest(unittest.TestCase):
    def test_values_that_are_no_state(self):
        limits = ((2, 2),)
        for value in ODD_VALUES + (list(P), ((0, 0, 0),), ((0, False, 1),), ((3, 0, 1),), P + P, P[0], U):
            with self.subTest(value):
                with self.assertRaises(InvalidState):
                    close_ranges(B, value, limits)
                with self.assertRaises(InvalidState):
                    total_range(B, value, limits)
                for count in (0, 1, -1, 99):
                    with self.assertRaises(InvalidState):
                        order_for(B, value, limits, number=0, end=0, count=count)
                    with self.assertRaises(InvalidState):
                        order_for_total(B, value, limits, count=count)


if __name__ == "__main__":
    unittest.main()
