"""Words of texts and commands: integers, names, directions and steps."""

from zipslack.cloths import DIRECTIONS
from zipslack.places import DOWN, UP

DIGITS = "0123456789"
LETTERS = "abcdefghijklmnopqrstuvwxyz"
LONGEST_NAME = 8


def is_number(word):
    """Whether a string is an integer as it is written: digits without a leading zero."""
    return consists_of(word, DIGITS) and (word[0] != "0" or word == "0")


def number_of(word):
    # No bound in this package has that many digits, and Python refuses to read very long numbers.
    return int(word[:9])


def is_name(value):
    """Whether any value is a name under which something may be saved."""
    return isinstance(value, str) and len(value) <= LONGEST_NAME and consists_of(value, LETTERS)


def consists_of(word, characters):
    """Whether a string has characters, and only these."""
    return word != "" and all([character in characters for character in word])


def is_direction(word):
    return word in DIRECTIONS


def is_step_word(word):
    return word in ("up", "down")


def step_of(word):
    return UP if word == "up" else DOWN


def step_word(step):
    return "up" if step == UP else "down"
