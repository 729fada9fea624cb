"""Texts of cloths, states and moves, and how they are read."""

from zipslack.cloths import DIRECTIONS, SORTS, Cloth
from zipslack.errors import InvalidCloth, ParseError
from zipslack.moves import SLIP
from zipslack.states import is_state
from zipslack.words import is_number, number_of, step_word

NO_ZIPS = "-"
BETWEEN_ZIPS = " ; "


def format_cloth(cloth):
    """The rows and then the zips of a cloth, one for each line."""
    return str(cloth)


def format_state(state):
    """The three integers of each zip."""
    if not state:
        return NO_ZIPS
    return BETWEEN_ZIPS.join([" ".join([str(number) for number in entry]) for entry in state])


def format_move(move):
    """The elements of a move."""
    words = [str(part) for part in move]
    return " ".join(words[:-1] + [step_word(move[-1])] if move[0] == SLIP else words)


def parse_cloth(text):
    """The cloth with this text."""
    if not isinstance(text, str):
        raise ParseError(-1)
    lines = text.split("\n")
    rows, zips = [], []
    for index, line in enumerate(lines):
        row = read_row(line)
        entry = read_zip(line)
        if row is None and entry is None or row is not None and zips:
            raise ParseError(index)
        if row is None:
            zips.append(entry)
        else:
            rows.append(row)
    try:
        return Cloth(tuple(rows), tuple(zips))
    except InvalidCloth:
        raise ParseError(len(lines)) from None


def parse_state(cloth, text):
    """The state of the cloth with this text."""
    if not isinstance(text, str):
        raise ParseError(-1)
    state = read_state(text)
    if state is None or not is_state(cloth, state):
        raise ParseError(0)
    return state


def read_row(line):
    """The row that is written in a line, or None."""
    words = line.split(" ")
    if len(words) < 2 or words[0] not in SORTS or not is_number(words[1]):
        return None
    feet = [read_foot(word) for word in words[2:]]
    if None in feet:
        return None
    return (words[0], number_of(words[1]), tuple(feet))


def read_foot(word):
    parts = word.split(".")
    if len(parts) != 2 or not is_number(parts[0]) or not is_number(parts[1]):
        return None
    return (number_of(parts[0]), number_of(parts[1]))


def read_zip(line):
    """The zip that is written in a line, or None."""
    words = line.split(" ")
    if len(words) != 2 or words[0] not in DIRECTIONS or not is_number(words[1]):
        return None
    return (words[0], number_of(words[1]))


def read_state(text):
    """The tuple of entries that a text describes, or None if it is not written as a state."""
    if text == NO_ZIPS:
        return ()
    entries = []
    for part in text.split(BETWEEN_ZIPS):
        words = part.split(" ")
        if len(words) != 3 or not all([is_number(word) for word in words]):
            return None
        entries.append(tuple([number_of(word) for word in words]))
    return tuple(entries)
