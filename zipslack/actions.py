"""Actions: the tuples that change a workspace, by name, length and the kinds of their elements."""

from zipslack.edits import EDITS
from zipslack.errors import InvalidAction
from zipslack.kinds import is_integer
from zipslack.moves import apply_move

DIRECTION = "direction"
STEP = "step"
# What follows the name of an action. A step is an integer, and it is written as a word in commands.
FORMS = {
    "close": ("integer", "integer"),
    "open": ("integer", "integer"),
    "slip": ("integer", "integer", "step"),
    "set_minimum": ("integer", "integer"),
    "join_ends": ("integer",),
    "cut": ("integer", "integer", "integer"),
    "add_zip": ("direction", "integer", "integer", "integer", "integer", "integer", "integer"),
    "remove_zip": ("integer",),
}


def is_action(value):
    """Whether any value is an action by its name, its length and the kinds of its elements."""
    if not isinstance(value, tuple) or len(value) == 0 or not isinstance(value[0], str) or value[0] not in FORMS:
        return False
    form = FORMS[value[0]]
    return len(value) == len(form) + 1 and all([is_of_kind(part, kind) for part, kind in zip(value[1:], form)])


def is_of_kind(value, kind):
    return isinstance(value, str) if kind == DIRECTION else is_integer(value)


def perform_action(cloth, state, action):
    """The cloth and the state after an action, which may be any value."""
    if not is_action(action):
        raise InvalidAction()
    name, *rest = action
    if name not in EDITS:
        return cloth, apply_move(cloth, state, action)
    edit = EDITS[name]
    return edit(cloth, state, *rest)
