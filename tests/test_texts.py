import itertools
import unittest

from tests.samples import A, B, C, D, ODD_VALUES, P, S, T, U
from tests.worlds import large_cases, random_cloth, states_of
from zipslack import texts
from zipslack.cloths import Cloth
from zipslack.errors import InvalidCloth, ParseError
from zipslack.moves import legal_moves
from zipslack.states import is_state
from zipslack.texts import format_cloth, format_move, format_state, parse_cloth, parse_state

NO_ZIPS = Cloth((("line", 4, ()), ("ring", 3, ())))
A_TEXT = "line 4 0.0\nline 5 0.1\nparallel 0"
LONG = "1" * 1500


def single_changes(text):
    """All texts that differ from this one by a character, taken out, put in or exchanged."""
    characters = " .;\n0129-+lx_/|"
    for index in range(len(text) + 1):
        yield text[:index] + text[index + 1:]
        for character in characters:
            yield text[:index] + character + text[index:]
            yield text[:index] + character + text[index + 1:]


def is_number(word):
    return word.isascii() and word.isdigit() and str(int(word)) == word


def line_form(line):
    """What a line is by its form: a row, a zip or nothing."""
    words = line.split(" ")
    if words[0] in ("line", "ring") and len(words) > 1 and is_number(words[1]):
        feet = [word.split(".") for word in words[2:]]
        return "row" if all(len(foot) == 2 and all(map(is_number, foot)) for foot in feet) else None
    return "zip" if words[0] in ("parallel", "reversed") and len(words) == 2 and is_number(words[1]) else None


def expected_line(text):
    """The line of the error for a text, or None if it is the text of a cloth."""
    forms = [line_form(line) for line in text.split("\n")]
    for index, form in enumerate(forms):
        if form is None or form == "row" and "zip" in forms[:index]:
            return index
    rows, zips = [], []
    for line, form in zip(text.split("\n"), forms):
        words = line.split(" ")
        if form == "row":
            rows.append((words[0], int(words[1]), tuple(tuple(map(int, word.split("."))) for word in words[2:])))
        else:
            zips.append((words[0], int(words[1])))
    try:
        Cloth(tuple(rows), tuple(zips))
    except InvalidCloth:
        return len(forms)
    return None


class TextsCase(unittest.TestCase):
    def assert_wrong(self, line, function, *arguments):
        with self.assertRaises(ParseError) as caught:
            function(*arguments)
        self.assertEqual(caught.exception.line, line, arguments)

    def assert_cloth(self, text):
        """The text is judged as its form says."""
        line = expected_line(text)
        if line is None:
            self.assertEqual(format_cloth(parse_cloth(text)), text)
        else:
            self.assert_wrong(line, parse_cloth, text)
        return line


class ExamplesTest(TextsCase):
    def test_the_examples(self):
        self.assertEqual(format_cloth(A), A_TEXT)
        self.assertEqual(format_state(S), "0 1 2")
        self.assertEqual(format_move(("slip", 0, 1, -1)), "slip 0 1 down")
        self.assert_wrong(2, parse_cloth, "line 4\nparallel 0")
        self.assertEqual(parse_state(A, "0 1 2"), ((0, 1, 2),))

    def test_arguments_by_name(self):
        self.assertEqual(format_cloth(cloth=A), A_TEXT)
        self.assertEqual(format_state(state=S), "0 1 2")
        self.assertEqual(format_move(move=("close", 0, 1)), "close 0 1")
        self.assertEqual(parse_cloth(text=A_TEXT), A)
        self.assertEqual(parse_state(text="0 1 2", cloth=A), S)

    def test_functions_are_defined_in_their_file(self):
        for name in ("format_cloth", "format_state", "format_move", "parse_cloth", "parse_state"):
            self.assertEqual(getattr(texts, name).__module__, "zipslack.texts")


class FormatTest(unittest.TestCase):
    def test_cloths(self):
        self.assertEqual(format_cloth(NO_ZIPS), "line 4\nring 3")
        self.assertEqual(format_cloth(D), "line 3 0.0 1.0\nline 5 0.1\nline 5 1.1\nparallel 0\nparallel 0")
        self.assertEqual(format_cloth(C), "ring 2 0.0\nline 3 0.1\nparallel 2")

    def test_states(self):
        self.assertEqual(format_state(()), "-")
        self.assertEqual(format_state(U), "0 0 0 ; 3 2 0")
        self.assertEqual(format_state(((10, 47, 24),) * 3), "10 47 24 ; 10 47 24 ; 10 47 24")

    def test_moves(self):
        self.assertEqual(format_move(("close", 7, 1)), "close 7 1")
        self.assertEqual(format_move(("open", 0, 0)), "open 0 0")
        self.assertEqual(format_move(("slip", 3, 0, 1)), "slip 3 0 up")
        self.assertEqual(format_move(("slip", 0, 1, -1)), "slip 0 1 down")
        found = [format_move(move) for move in legal_moves(A, ((1, 1, 0),))]
        slips = ["slip 0 0 down", "slip 0 0 up", "slip 0 1 down", "slip 0 1 up"]
        self.assertEqual(found, ["close 0 0", "close 0 1"] + slips)


class RoundTripTest(TextsCase):
    def test_cloths_and_states(self):
        for cloth, state in large_cases(61, 300, states=1):
            self.assertEqual(parse_cloth(format_cloth(cloth)), cloth)
            self.assertEqual(str(parse_cloth(str(cloth))), str(cloth))
            self.assertEqual(parse_state(cloth, format_state(state)), state)

    def test_all_states(self):
        for seed in range(5):
            cloth = random_cloth(seed, 3, 2)
            for state in states_of(cloth):
                self.assertEqual(parse_state(cloth, format_state(state)), state)
        self.assertEqual(parse_state(NO_ZIPS, "-"), ())


class ParseClothTest(TextsCase):
    def test_values_that_are_no_strings(self):
        for value in ODD_VALUES + (b"line 4", ["line 4"], ("line 4",), A, 4):
            if not isinstance(value, str):
                with self.subTest(value):
                    self.assert_wrong(-1, parse_cloth, value)

    def test_lines_that_are_nothing(self):
        for line in ("", " ", "line", "line ", "line  4", " line 4", "line 4 ", "line 04", "line +4", "line -4",
                     "line 4.0", "line four", "Line 4", "row 4", "line 4 0", "line 4 0.", "line 4 .0", "line 4 0.0.0",
                     "line 4 0.01", "line 4 00.0", "line 4 -0.0", "line 4 0,0", "line 4  0.0", "line 4 0.0 ",
                     "parallel", "parallel ", "parallel 00", "parallel -1", "parallel 0 0", "parallel 0.0",
                     "parallel  0", "reversed x", "0", "-", "ring 1_0", "ring 4 0.0;0.1", "line 4/line 5", "line 4 | 0",
                     "line\t4"):
            with self.subTest(line):
                self.assert_wrong(0, parse_cloth, line)
                self.assert_wrong(1, parse_cloth, "line 4\n" + line)
                self.assert_wrong(3, parse_cloth, A_TEXT + "\n" + line)
                self.assert_wrong(0, parse_cloth, line + "\n" + A_TEXT)

    def test_a_row_after_a_zip(self):
        self.assert_wrong(1, parse_cloth, "parallel 0\nline 4 0.0 0.1")
        self.assert_wrong(2, parse_cloth, "line 4 0.0 0.1\nparallel 0\nline 4")
        self.assert_wrong(2, parse_cloth, "line 4 0.0 0.1\nparallel 0\nline 0 7.7")
        self.assert_wrong(1, parse_cloth, "parallel 0\nline 4\n")

    def test_the_first_wrong_line(self):
        self.assert_wrong(1, parse_cloth, "line 99\nx\ny")
        self.assert_wrong(0, parse_cloth, "x\nparallel 0\nline 4")
        self.assert_wrong(2, parse_cloth, "line 4\nparallel 0\nline 4\nx")

    def test_lines_that_describe_no_cloth(self):
        for text in ("line 0", "line 25", "ring 0", "parallel 0", "line 4\nparallel 25", "line 4\nparallel 0",
                     "line 4 0.0", "line 4 0.0 0.1", "line 4 0.0 0.0\nparallel 0", "line 4 0.0 0.2\nparallel 0",
                     "line 4 0.0 1.0\nparallel 0", "line 4 0.0 0.1 0.1\nparallel 0", "\n".join(["line 1"] * 7),
                     "\n".join(["ring 1"] * 3), "line 4 8.0\nparallel 0", f"line {LONG}", f"line 4 {LONG}.0",
                     f"line 4 0.{LONG}", f"line 4\nparallel {LONG}", "\n".join(["line 1"] + ["parallel 0"] * 9)):
            with self.subTest(text):
                self.assert_wrong(len(text.split("\n")), parse_cloth, text)

    def test_numbers_up_to_the_limits(self):
        for text in ("line 1", "line 24", "ring 1\nring 24", "\n".join(["line 24"] * 6), "line 4 0.0 0.1\nparallel 24",
                     "line 4 0.1 0.0\nreversed 0"):
            self.assertEqual(format_cloth(parse_cloth(text)), text)

    def test_single_changes(self):
        lines = []
        for text in (A_TEXT, "ring 2 0.0 1.1\nline 10 1.0 0.1\nreversed 2\nparallel 10", "line 4\nring 3", "line 1"):
            lines.extend(self.assert_cloth(changed) for changed in single_changes(text))
        self.assertGreater(lines.count(None), 30)
        self.assertGreater(len(set(lines)), 4)

    def test_lines_exchanged(self):
        for lines in itertools.permutations(A_TEXT.split("\n")):
            self.assert_cloth("\n".join(lines))


class ParseStateTest(TextsCase):
    def test_values_that_are_no_strings(self):
        for value in ODD_VALUES + (b"0 1 2", ["0 1 2"], S, ((0, 1, 2),), A):
            if not isinstance(value, str):
                with self.subTest(value):
                    self.assert_wrong(-1, parse_state, A, value)
                    self.assert_wrong(-1, parse_state, NO_ZIPS, value)

    def test_texts_that_are_no_state(self):
        for text in ("", " ", "-", "0 1", "0 1 2 3", "0 1 2 ", " 0 1 2", "0  1 2", "0 1 2;", "0 1 2 ;", "0 1 2 ; ",
                     "00 1 2", "0 01 2", "0 1 02", "+0 1 2", "-0 1 2", "0 1 -2", "0 1 2\n", "\n0 1 2", "0\n1 2",
                     "0 1 2 ; 0 1 2", "0,1,2", "0 1 x", "0 1 5", "4 1 1", "0 5 1", "0 1 2.0", "((0, 1, 2),)", "0 1 1_0",
                     f"0 1 {LONG}", f"{LONG} 1 2", "True 1 2", "0\t1\t2"):
            with self.subTest(text):
                self.assert_wrong(0, parse_state, A, text)

    def test_several_zips(self):
        self.assertEqual(parse_state(D, "0 0 0 ; 3 2 0"), U)
        for text in ("0 0 0", "0 0 0 ; ", "0 0 0 ;3 2 0", "0 0 0; 3 2 0", "0 0 0  ; 3 2 0", "0 0 0 ;  3 2 0", "-",
                     "0 0 0 3 2 0", "0 0 0 ; 3 2 0 ; 0 0 0", "3 2 0 ; 0 0 0", "0 0 0 ; - ", "0 0 0\n3 2 0"):
            with self.subTest(text):
                self.assert_wrong(0, parse_state, D, text)

    def test_no_zips(self):
        for text in ("", "--", "- ", " -", "0 0 0", " ; ", "()", "-\n"):
            self.assert_wrong(0, parse_state, NO_ZIPS, text)

    def test_a_cloth_without_states(self):
        cloth = Cloth((("line", 1, ((0, 0),)), ("line", 1, ((0, 1),))), (("parallel", 2),))
        self.assert_wrong(0, parse_state, cloth, "0 0 2")

    def test_single_changes(self):
        accepted = 0
        for cloth, state in ((A, S), (D, U), (B, P), (C, T)):
            for text in single_changes(format_state(state)):
                parts = [part.split(" ") for part in text.split(" ; ")]
                numbers = all(len(words) == 3 and all(map(is_number, words)) for words in parts)
                value = tuple(tuple(map(int, words)) for words in parts) if numbers else None
                if value is not None and is_state(cloth, value):
                    accepted += 1
                    self.assertEqual(parse_state(cloth, text), value)
                else:
                    self.assert_wrong(0, parse_state, cloth, text)
        self.assertGreater(accepted, 10)


if __name__ == "__main__":
    unittest.main()
