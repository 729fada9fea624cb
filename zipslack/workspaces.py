"""Workspaces: an editable cloth with a state, saved states and a history."""

from zipslack.actions import perform_action
from zipslack.costs import distance
from zipslack.errors import Busy, ClothMismatch, NothingToUndo, UnknownName
from zipslack.moves import CLOSE, apply_move, can_close
from zipslack.paths import shortest_path
from zipslack.places import all_halves
from zipslack.states import require_gaps, require_state
from zipslack.texts import format_state
from zipslack.words import is_name


class Workspace:
    """A cloth and a state of it. Its length is the number of actions that can be undone."""

    def __init__(self, cloth, state):
        require_state(cloth, state)
        self.held_cloth = cloth
        self.held_state = state
        # The cloths and states from before each action, and those that are saved under a name.
        self.history = []
        self.kept = {}
        self.busy = False

    def __eq__(self, other):
        return (isinstance(other, Workspace) and self.held_cloth == other.held_cloth
                and self.held_state == other.held_state)

    def __len__(self):
        return len(self.history)

    def __str__(self):
        return f"{format_state(self.held_state)}"

    def __repr__(self):
        return f"Workspace({self.held_cloth!r})"

    def cloth(self):
        return self.held_cloth

    def state(self):
        return self.held_state

    def do(self, action):
        """Performs an action, which may be any value."""
        self.require_idle()
        cloth, state = perform_action(self.held_cloth, self.held_state, action)
        self.history.append((self.held_cloth, self.held_state))
        self.held_cloth = cloth
        self.held_state = state

    def undo(self):
        """Reverts the last action that is not reverted yet."""
        self.require_idle()
        if not self.history:
            raise NothingToUndo()
        self.held_cloth, self.held_state = self.history.pop()

    def save(self, name):
        """Saves the cloth and the state under a name, which may be any value."""
        self.require_idle()
        if not is_name(name):
            raise UnknownName(name)
        self.kept[name] = (self.held_cloth, self.held_state)

    def saved(self):
        """The sorted names under which something is saved."""
        return sorted(list(self.kept))

    def distance_to(self, name):
        """The distance to a saved state, or None if it is unreachable."""
        return distance(self.held_cloth, self.held_state, self.saved_state(name))[0]

    def path_to(self, name):
        """A shortest path to a saved state, or None if it is unreachable."""
        return shortest_path(self.held_cloth, self.held_state, self.saved_state(name))

    def close_all(self, limits, *, choose=None):
        """Closes sliders until none can be closed, and returns their order."""
        self.require_idle()
        before = self.held_state
        order = None
        self.busy = True
        try:
            order = self.close_one_by_one(limits, choose)
        finally:
            self.busy = False
            if order is None:
                self.held_state = before
        self.history.append((self.held_cloth, before))
        return order

    def clone(self):
        """An independent workspace with the same cloth, state, saved states and history."""
        other = Workspace(self.held_cloth, self.held_state)
        other.history = list(self.history)
        other.kept = dict(self.kept)
        return other

    def require_idle(self):
        if self.busy:
            raise Busy()

    def saved_state(self, name):
        """The state that is saved under a name of the current cloth. The name may be any value."""
        if not is_name(name) or name not in self.kept:
            raise UnknownName(name)
        cloth, state = self.kept[name]
        if cloth != self.held_cloth:
            raise ClothMismatch(name)
        return state

    def close_one_by_one(self, limits, choose):
        order = []
        sliders = self.closable(limits, order)
        while sliders:
            index = 0 if choose is None else choose(list(sliders))
            number, end = sliders[index % len(sliders)]
            self.held_state = apply_move(self.held_cloth, self.held_state, (CLOSE, number, end))
            order.append((number, end))
            sliders = self.closable(limits, order)
        return order

    def closable(self, limits, order):
        """The sliders that can still be closed after this order, sorted."""
        gaps = require_gaps(self.held_cloth, self.held_state)
        return [(number, end) for number, end in all_halves(self.held_cloth)
                if order.count((number, end)) < limits[number][end] and can_close(self.held_cloth, gaps, number, end)]
