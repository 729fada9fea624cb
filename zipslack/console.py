"""The console: commands, which are strings, on a workspace."""

from zipslack.actions import DIRECTION, FORMS, STEP
from zipslack.clamps import clamped_feet
from zipslack.cloths import Cloth
from zipslack.errors import InvalidCommand
from zipslack.holes import slack
from zipslack.moves import legal_moves
from zipslack.texts import format_cloth, format_move, format_state, parse_cloth, parse_state
from zipslack.words import is_direction, is_name, is_number, is_step_word, number_of, step_of
from zipslack.workspaces import Workspace

DONE = "ok"
NONE = "none"
EMPTY = "-"
CLOTH_WORD = "cloth "
BEFORE_STATE = " | "
MOST_DIGITS = 4


def listed(texts, separator):
    return separator.join(texts) if texts else EMPTY


def show_cloth(workspace):
    return format_cloth(workspace.cloth()).replace("\n", "/")


def show_state(workspace):
    return format_state(workspace.state())


def show_moves(workspace):
    return listed([format_move(move) for move in legal_moves(workspace.cloth(), workspace.state())], ", ")


def show_slack(workspace):
    return listed([f"{kind} {size}" for kind, size in slack(workspace.cloth(), workspace.state())], ", ")


def show_clamped(workspace):
    return listed([f"{number}.{side}" for number, side in clamped_feet(workspace.cloth(), workspace.state())], " ")


def undo_last(workspace):
    workspace.undo()
    return DONE


def save_as(workspace, name):
    workspace.save(name)
    return DONE


def show_path(workspace, name):
    moves = workspace.path_to(name)
    return NONE if moves is None else listed([format_move(move) for move in moves], ", ")


def show_distance(workspace, name):
    count = workspace.distance_to(name)
    return NONE if count is None else str(count)


# Commands of one word, and commands with a name.
SINGLE = {
    "cloth": show_cloth,
    "state": show_state,
    "moves": show_moves,
    "slack": show_slack,
    "clamped": show_clamped,
    "undo": undo_last,
}
NAMED = {
    "save": save_as,
    "path": show_path,
    "distance": show_distance,
}


def read_word(word, kind):
    """The element of an action that a word stands for."""
    if kind == DIRECTION and is_direction(word):
        return word
    if kind == STEP and is_step_word(word):
        return step_of(word)
    if kind in (DIRECTION, STEP) or not is_number(word) or len(word) > MOST_DIGITS:
        raise InvalidCommand()
    return number_of(word)


def read_action(words):
    """The action that the words of a command stand for."""
    if words[0] not in FORMS or len(words) != len(FORMS[words[0]]) + 1:
        raise InvalidCommand()
    return (words[0],) + tuple([read_word(word, kind) for word, kind in zip(words[1:], FORMS[words[0]])])


def read_workspace(text):
    """The new workspace that is written behind the word for a cloth."""
    if text.count(BEFORE_STATE) != 1:
        raise InvalidCommand()
    cloth_text, between, state_text = text.partition(BEFORE_STATE)
    cloth = parse_cloth(cloth_text.replace("/", "\n"))
    return Workspace(cloth, parse_state(cloth, state_text))


class Console:
    """A console with a workspace of its own."""

    def __init__(self):
        self.held = Workspace(Cloth((("line", 1, ()),)), ())

    def workspace(self):
        """A clone of the workspace."""
        return self.held.clone()

    def run(self, command):
        """Performs a command, which may be any value, and returns its answer."""
        if not isinstance(command, str) or "\n" in command:
            raise InvalidCommand()
        if command.startswith(CLOTH_WORD):
            self.held = read_workspace(command[len(CLOTH_WORD):])
            return DONE
        words = command.split(" ")
        if len(words) == 1 and words[0] in SINGLE:
            show = SINGLE[words[0]]
            return show(self.held)
        if len(words) == 2 and words[0] in NAMED and is_name(words[1]):
            act = NAMED[words[0]]
            return act(self.held, words[1])
        self.held.do(read_action(words))
        return DONE
