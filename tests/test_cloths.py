import unittest

from tests.samples import A, B, C, D, ODD_VALUES
from zipslack.cloths import Cloth
from zipslack.errors import InvalidCloth, UnknownZip

LINE = ("line", 4, ())
RING = ("ring", 4, ())
ZIP = ("parallel", 0)
ROWS = (("line", 4, ((0, 0),)), ("line", 5, ((0, 1),)))
ZIPS = (ZIP,)


def feet_of(count):
    return tuple((number, side) for number in range(count) for side in (0, 1))


class ClothCase(unittest.TestCase):
    def assert_invalid(self, part, position, *arguments, **named):
        with self.assertRaises(InvalidCloth) as caught:
            Cloth(*arguments, **named)
        self.assertEqual((caught.exception.part, caught.exception.position), (part, position))
        self.assertIs(type(caught.exception.position), int)


class ConstructionTest(ClothCase):
    def test_the_examples(self):
        self.assertEqual(repr(A), "Cloth(2 rows, 1 zips)")
        self.assert_invalid("feet", 1, (("line", 2, ((0, 0),)),), (("parallel", 0),))

    def test_zips_may_be_left_out(self):
        self.assertEqual(Cloth((LINE,)).zips(), ())
        self.assertEqual(Cloth((LINE,)), Cloth((LINE,), ()))

    def test_arguments_by_name(self):
        self.assertEqual(Cloth(rows=ROWS, zips=ZIPS), Cloth(ROWS, ZIPS))
        self.assertEqual(Cloth(zips=ZIPS, rows=ROWS), Cloth(ROWS, ZIPS))
        self.assertEqual(Cloth(rows=(LINE,)), Cloth((LINE,)))
        self.assert_invalid("rows", -1, zips=(), rows=())

    def test_wrong_arguments_are_not_changed(self):
        rows = [["line", 4, [[0, 0], [0, 1]]]]
        zips = [["parallel", 0]]
        self.assert_invalid("rows", -1, rows, zips)
        self.assert_invalid("zips", -1, (LINE,), zips)
        self.assertEqual((rows, zips), ([["line", 4, [[0, 0], [0, 1]]]], [["parallel", 0]]))


class RowsCheckTest(ClothCase):
    def test_the_number_of_rows(self):
        for count in range(1, 7):
            self.assertEqual(Cloth((LINE,) * count).rows(), (LINE,) * count)
        for count in (0, 7, 8, 100):
            self.assert_invalid("rows", -1, (LINE,) * count)

    def test_rows_that_are_no_tuple(self):
        for value in ODD_VALUES:
            if not isinstance(value, tuple):
                with self.subTest(value):
                    self.assert_invalid("rows", -1, value)
        self.assert_invalid("rows", -1, [LINE])
        self.assert_invalid("rows", -1, {0: LINE})

    def test_values_that_are_no_row(self):
        for value in ODD_VALUES + (list(LINE), LINE[:2], LINE + ((),), ("line", ()), (4, "line", ())):
            with self.subTest(value):
                self.assert_invalid("rows", 0, (value,))
                self.assert_invalid("rows", 1, (LINE, value))
                self.assert_invalid("rows", 5, (LINE,) * 5 + (value,))

    def test_the_sort_of_a_row(self):
        for sort in ("Line", "rings", "", "line ", "lin", "parallel", b"line") + ODD_VALUES:
            if sort != "line":
                with self.subTest(sort):
                    self.assert_invalid("rows", 0, ((sort, 4, ()),))

    def test_the_teeth_of_a_row(self):
        for sort in ("line", "ring"):
            for teeth in (1, 2, 23, 24):
                self.assertEqual(Cloth(((sort, teeth, ()),)).rows(), ((sort, teeth, ()),))
            for teeth in (0, 25, -1, -24, 10 ** 29, True, False, None, "4", (4,), [4]):
                with self.subTest((sort, teeth)):
                    self.assert_invalid("rows", 0, ((sort, teeth, ()),))

    def test_the_form_of_feet(self):
        odd_feet = (
            [], None, 0, "", "00", True, [(0, 0), (0, 1)], ([0, 0], [0, 1]), (0, 0), ((0,), (0, 1)),
            ((0, 0, 0), (0, 1)), ((0, 0), (0, 1), ()), ((0, 0), (0, True)), ((False, 0), (0, 1)),
            ((0, False), (0, 1)), ((0, 0), (0, None)), ((0, 0), ("0", 1)), ((0, 0), (0, (1,))), (A,), A,
        )
        for feet in odd_feet:
            with self.subTest(feet):
                self.assert_invalid("rows", 1, (LINE, ("line", 4, feet)), ZIPS)

    def test_at_most_two_rings(self):
        for rows in ((RING,), (RING, RING), (LINE, RING, LINE, LINE, RING, LINE)):
            self.assertEqual(Cloth(rows).rows(), rows)
        self.assert_invalid("rows", 2, (RING, RING, RING))
        self.assert_invalid("rows", 2, (RING, RING, RING, RING))
        self.assert_invalid("rows", 3, (RING, LINE, RING, RING, LINE))
        self.assert_invalid("rows", 5, (RING, LINE, RING, LINE, LINE, RING))

    def test_the_first_failing_row_is_named(self):
        self.assert_invalid("rows", 0, (None, None))
        self.assert_invalid("rows", 2, (RING, RING, RING, None))
        self.assert_invalid("rows", 2, (RING, RING, None, RING))
        self.assert_invalid("rows", 1, (RING, ("line", 0, ()), RING, RING))


class ZipsCheckTest(ClothCase):
    def test_the_number_of_zips(self):
        for count in range(9):
            cloth = Cloth((("line", 4, feet_of(count)),), (ZIP,) * count)
            self.assertEqual(cloth.zips(), (ZIP,) * count)
        for count in (9, 10, 100):
            self.assert_invalid("zips", -1, (("line", 4, feet_of(count)),), (ZIP,) * count)

    def test_zips_that_are_no_tuple(self):
        for value in ODD_VALUES:
            if not isinstance(value, tuple):
                with self.subTest(value):
                    self.assert_invalid("zips", -1, (LINE,), value)
        self.assert_invalid("zips", -1, ROWS, [ZIP])

    def test_values_that_are_no_zip(self):
        for value in ODD_VALUES + (list(ZIP), ("parallel",), ZIP + (0,), (0, "parallel")):
            with self.subTest(value):
                self.assert_invalid("zips", 0, ROWS, (value,))
                self.assert_invalid("zips", 1, ROWS, (ZIP, value))
                self.assert_invalid("zips", 7, ROWS, (ZIP,) * 7 + (value,))

    def test_the_direction_of_a_zip(self):
        for direction in ("parallel", "reversed"):
            self.assertEqual(Cloth(ROWS, ((direction, 0),)).zips(), ((direction, 0),))
        for direction in ("Parallel", "reverse", "", "parallel ", "line", b"parallel") + ODD_VALUES:
            with self.subTest(direction):
                self.assert_invalid("zips", 0, ROWS, ((direction, 0),))

    def test_the_minimum_of_a_zip(self):
        for direction in ("parallel", "reversed"):
            for minimum in (0, 1, 23, 24):
                self.assertEqual(Cloth(ROWS, ((direction, minimum),)).zips(), ((direction, minimum),))
            for minimum in (-1, 25, -24, 10 ** 29, True, False, None, "0", (0,), [0]):
                with self.subTest((direction, minimum)):
                    self.assert_invalid("zips", 0, ROWS, ((direction, minimum),))

    def test_the_first_failing_zip_is_named(self):
        self.assert_invalid("zips", 0, ROWS, (None, None))
        self.assert_invalid("zips", 1, ROWS, (ZIP, ("parallel", 25), ("parallel", -1)))


class FeetCheckTest(ClothCase):
    def test_feet_may_be_anywhere_and_in_any_order(self):
        rows = (
            ("ring", 3, ((2, 1), (0, 1), (0, 0))),
            LINE,
            ("line", 1, ((1, 0), (2, 0))),
            ("ring", 24, ((1, 1),)),
        )
        self.assertEqual(Cloth(rows, (ZIP, ZIP, ZIP)).rows(), rows)

    def test_a_foot_that_belongs_to_no_zip(self):
        odd_feet = ((0, 2), (0, -1), (1, 0), (1, 1), (-1, 0), (-1, 1), (8, 0), (10 ** 29, 1), (0, -10 ** 29))
        for foot in odd_feet:
            with self.subTest(foot):
                self.assert_invalid("feet", 0, (("line", 4, ((0, 0), (0, 1), foot)),), ZIPS)
                self.assert_invalid("feet", 2, ROWS + (("line", 4, (foot,)), LINE), ZIPS)

    def test_a_foot_without_any_zip(self):
        self.assert_invalid("feet", 0, ROWS)
        self.assert_invalid("feet", 1, (LINE, ("line", 4, ((0, 0),))), ())

    def test_a_doubled_foot(self):
        self.assert_invalid("feet", 0, (("line", 4, ((0, 0), (0, 0))), ("line", 4, ((0, 1),))), ZIPS)
        self.assert_invalid("feet", 1, (("line", 4, ((0, 0),)), ("line", 4, ((0, 1), (0, 0)))), ZIPS)
        self.assert_invalid("feet", 2, ROWS + (("line", 4, ((0, 1),)),), ZIPS)
        self.assert_invalid("feet", 1, (("line", 4, ((0, 1),)), ("line", 4, ((0, 1),))), ZIPS)

    def test_the_first_failing_row_is_named(self):
        odd = ("line", 4, ((5, 0),))
        self.assert_invalid("feet", 1, (LINE, odd, odd), ZIPS)
        self.assert_invalid("feet", 2, ROWS + (("line", 4, ((0, 0),)), odd), ZIPS)

    def test_a_missing_foot(self):
        self.assert_invalid("feet", 1, (LINE,), ZIPS)
        self.assert_invalid("feet", 2, ROWS, (ZIP, ZIP))
        self.assert_invalid("feet", 2, (("line", 4, ((0, 1),)), LINE), ZIPS)
        self.assert_invalid("feet", 6, (LINE,) * 6, (ZIP,) * 8)
        self.assert_invalid("feet", 1, (("ring", 4, ((0, 0), (0, 1), (1, 1))),), (ZIP, ZIP))


class CheckOrderTest(ClothCase):
    """Each pair of failing checks raises the one that is listed first."""

    def test_the_number_of_rows_comes_first(self):
        for zips in (None, [], (ZIP,) * 9, (None,), ZIPS):
            with self.subTest(zips):
                self.assert_invalid("rows", -1, (), zips)
                self.assert_invalid("rows", -1, (None,) * 7, zips)
                self.assert_invalid("rows", -1, (RING,) * 7, zips)

    def test_rows_come_before_zips_and_feet(self):
        for zips in (None, [], (ZIP,) * 9, (None,), ZIPS):
            with self.subTest(zips):
                self.assert_invalid("rows", 1, (("line", 4, ((0, 5),)), None), zips)
                self.assert_invalid("rows", 2, (RING, RING, ("ring", 4, ((9, 9),))), zips)

    def test_zips_come_before_feet(self):
        for rows in ((LINE,), (("line", 4, ((0, 0), (0, 0))),), (("line", 4, ((3, 7),)),)):
            with self.subTest(rows):
                self.assert_invalid("zips", -1, rows, (None,) * 9)
                self.assert_invalid("zips", -1, rows, [None])
                self.assert_invalid("zips", 1, rows, (ZIP, ("parallel", 25)))

    def test_wrong_feet_come_before_missing_feet(self):
        self.assert_invalid("feet", 0, (("line", 4, ((0, 2),)),), ZIPS)
        self.assert_invalid("feet", 1, (("line", 4, ((0, 0),)), ("line", 4, ((0, 0),))), ZIPS)


class ComparisonTest(unittest.TestCase):
    def test_equal_cloths(self):
        self.assertTrue(Cloth(ROWS, ZIPS) == Cloth(tuple(list(ROWS)), tuple(list(ZIPS))))
        self.assertFalse(Cloth(ROWS, ZIPS) != Cloth(ROWS, ZIPS))
        self.assertTrue(A == A)

    def test_cloths_that_differ_in_one_place(self):
        others = (
            Cloth((("ring", 4, ((0, 0),)), ("line", 5, ((0, 1),))), ZIPS),
            Cloth((("line", 3, ((0, 0),)), ("line", 5, ((0, 1),))), ZIPS),
            Cloth((("line", 4, ((0, 1),)), ("line", 5, ((0, 0),))), ZIPS),
            Cloth((("line", 4, ((0, 0), (0, 1))), ("line", 5, ())), ZIPS),
            Cloth((("line", 5, ((0, 1),)), ("line", 4, ((0, 0),))), ZIPS),
            Cloth(ROWS + (LINE,), ZIPS),
            Cloth(ROWS, (("reversed", 0),)),
            Cloth(ROWS, (("parallel", 1),)),
            Cloth((LINE,)),
        )
        for other in others:
            with self.subTest(str(other)):
                self.assertFalse(A == other)
                self.assertFalse(other == A)
                self.assertTrue(A != other)

    def test_a_cloth_without_zips_differs_by_its_rows(self):
        self.assertTrue(Cloth((LINE,)) == Cloth((LINE,)))
        self.assertFalse(Cloth((LINE,)) == Cloth((RING,)))
        self.assertFalse(Cloth((LINE,)) == Cloth((LINE, LINE)))

    def test_values_that_are_no_cloth(self):
        for value in (None, True, 1, "", str(A), repr(A), ROWS, (ROWS, ZIPS), [ROWS, ZIPS], A.rows(), object()):
            with self.subTest(value):
                self.assertIs(A == value, False)
                self.assertIs(value == A, False)
                self.assertIs(A != value, True)


class LengthAndTextTest(unittest.TestCase):
    def test_len_is_the_number_of_zips(self):
        for count in range(9):
            self.assertEqual(len(Cloth((("line", 4, feet_of(count)), LINE), (ZIP,) * count)), count)

    def test_a_cloth_as_a_condition(self):
        self.assertFalse(Cloth((LINE, LINE)))
        self.assertTrue(A)

    def test_repr(self):
        self.assertEqual(repr(Cloth((LINE,))), "Cloth(1 rows, 0 zips)")
        self.assertEqual(repr(D), "Cloth(3 rows, 2 zips)")
        self.assertEqual(repr(Cloth((("line", 4, feet_of(8)),) + (LINE,) * 5, (ZIP,) * 8)), "Cloth(6 rows, 8 zips)")

    def test_str(self):
        self.assertEqual(str(A), "line 4 0.0\nline 5 0.1\nparallel 0")
        self.assertEqual(str(B), "ring 3 0.0\nline 5 0.1\nparallel 1")
        self.assertEqual(str(D), "line 3 0.0 1.0\nline 5 0.1\nline 5 1.1\nparallel 0\nparallel 0")

    def test_str_without_zips_and_feet(self):
        self.assertEqual(str(Cloth((("line", 1, ()),))), "line 1")
        self.assertEqual(str(Cloth((("ring", 24, ()), LINE))), "ring 24\nline 4")

    def test_str_keeps_the_order_of_feet_and_zips(self):
        cloth = Cloth((("ring", 10, ((1, 1), (0, 0))), ("line", 12, ((0, 1), (1, 0)))), (("reversed", 24), ZIP))
        self.assertEqual(str(cloth), "ring 10 1.1 0.0\nline 12 0.1 1.0\nreversed 24\nparallel 0")


class MethodsTest(unittest.TestCase):
    def assert_unknown(self, cloth, number, side):
        with self.assertRaises(UnknownZip) as caught:
            cloth.row_of(number, side)
        self.assertIs(caught.exception.number, number)

    def test_the_examples(self):
        self.assertEqual(A.rows(), (("line", 4, ((0, 0),)), ("line", 5, ((0, 1),))))
        self.assertEqual(A.zips(), (("parallel", 0),))
        self.assertEqual(A.row_of(0, 1), 1)
        self.assert_unknown(A, 0, True)

    def test_rows_and_zips_are_tuples(self):
        for cloth in (A, B, C, D, Cloth((LINE,))):
            self.assertIs(type(cloth.rows()), tuple)
            self.assertIs(type(cloth.zips()), tuple)

    def test_a_cloth_stays_as_it_is(self):
        cloth = Cloth(ROWS, ZIPS)
        rows, zips = cloth.rows(), cloth.zips()
        rows += (LINE,)
        zips += (ZIP,)
        self.assert_unknown(cloth, 1, 0)
        self.assertEqual((cloth.rows(), cloth.zips(), len(cloth), str(cloth)), (ROWS, ZIPS, 1, str(A)))

    def test_row_of_every_foot(self):
        rows = (
            ("line", 3, ((2, 1), (0, 1))),
            LINE,
            ("ring", 1, ((1, 0), (2, 0), (0, 0))),
            ("ring", 24, ((1, 1),)),
        )
        cloth = Cloth(rows, (ZIP, ZIP, ZIP))
        found = {(number, side): cloth.row_of(number, side) for number in range(3) for side in (0, 1)}
        self.assertEqual(found, {(0, 0): 2, (0, 1): 0, (1, 0): 2, (1, 1): 3, (2, 0): 2, (2, 1): 0})

    def test_row_of_eight_zips(self):
        rows = (("line", 4, tuple((number, 0) for number in range(8))),
                ("line", 4, tuple((number, 1) for number in range(8))))
        cloth = Cloth(rows, (ZIP,) * 8)
        for number in range(8):
            self.assertEqual((cloth.row_of(number, 0), cloth.row_of(number, 1)), (0, 1))
        self.assert_unknown(cloth, 8, 0)

    def test_row_of_by_name(self):
        self.assertEqual(D.row_of(number=1, side=1), 2)
        self.assertEqual(D.row_of(side=0, number=1), 0)

    def test_row_of_values_that_are_no_foot(self):
        odd_values = ODD_VALUES + (2, -2, 8, "0", "1", (0,), (0, 0), [0], [0, 1], {})
        for value in odd_values:
            if value not in (0, 1) or isinstance(value, bool):
                with self.subTest(value):
                    for other in (0, 1, value):
                        self.assert_unknown(D, value, other)
                        self.assert_unknown(D, other, value)

    def test_row_of_without_zips(self):
        self.assert_unknown(Cloth((LINE,)), 0, 0)

    def test_methods_are_defined_in_the_class_itself(self):
        self.assertEqual(Cloth.__module__, "zipslack.cloths")
        for name in ("__init__", "__eq__", "__len__", "__str__", "__repr__", "rows", "zips", "row_of"):
            self.assertIn(name, vars(Cloth))


if __name__ == "__main__":
    unittest.main()
