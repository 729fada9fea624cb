"""The errors of the package, one class for each kind of failure."""


class InvalidCloth(ValueError):
    """Rows and zips that do not make a cloth: the failing part, and where in it."""

    def __init__(self, part, position):
        self.part = part
        self.position = position


class InvalidState(ValueError):
    """A value that is not a state of the cloth."""


class IllegalMove(RuntimeError):
    """A move that is not legal when it is reached, by its position in the list of moves."""

    def __init__(self, position):
        self.position = position


class UnknownZip(IndexError):
    """A number that is not the number of a suitable zip."""

    def __init__(self, number):
        self.number = number


class UnknownRow(IndexError):
    """A number that is not the number of a row."""

    def __init__(self, row):
        self.row = row


class NotClamped(LookupError):
    """A value that is not a clamped foot."""

    def __init__(self, foot):
        self.foot = foot


class UnreachableCount(ArithmeticError):
    """A count that no order of closing leads to."""

    def __init__(self, count):
        self.count = count


class LimitExceeded(OverflowError):
    """More than a limit allows."""

    def __init__(self, limit):
        self.limit = limit


class InvalidAction(TypeError):
    """A value that is not an action, or an action that is impossible."""


class NothingToUndo(LookupError):
    """An undo without an action that could be reverted."""


class UnknownName(KeyError):
    """A value that is not a name, or a name under which nothing is saved."""

    def __init__(self, name):
        self.name = name


class ClothMismatch(ValueError):
    """A name under which another cloth than the current one is saved."""

    def __init__(self, name):
        self.name = name


class Busy(RuntimeError):
    """A change of a workspace while it closes sliders."""


class ParseError(ValueError):
    """A text that describes no cloth or no state, by the number of the wrong line."""

    def __init__(self, line):
        self.line = line


class InvalidCommand(ValueError):
    """A value that is not a command of the console."""
