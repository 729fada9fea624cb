"""Every name of the interface: where it is defined, and which arguments it takes."""

import importlib
import inspect
import unittest

# Each entry is written as in the document. Names after a star are passed by keyword only.
FUNCTIONS = {
    "states": ("is_state(cloth, value)", "gaps(cloth, state)", "pairs(cloth, state)"),
    "moves": ("is_legal(cloth, state, move)", "apply_move(cloth, state, move)", "apply_moves(cloth, state, moves)",
              "legal_moves(cloth, state)"),
    "holes": ("holes(cloth, state)", "slack(cloth, state)", "opening_effect(cloth, state, number)"),
    "clamps": ("clamped_feet(cloth, state)", "blocking_cycle(cloth, state, foot)",
               "is_blocking_cycle(cloth, state, value)"),
    "windings": ("constraints(cloth, start, goal)", "is_admissible(cloth, start, goal, winding)",
                 "find_winding(cloth, start, goal)"),
    "costs": ("zip_costs(cloth, start, goal, winding)", "lower_bound(cloth, start, goal, winding)",
              "distance(cloth, start, goal)"),
    "paths": ("shortest_path(cloth, start, goal)",),
    "certificates": ("certificate(cloth, start, goal)",),
    "checker": ("check(cloth, start, goal, value)",),
    "closing": ("close_ranges(cloth, state, limits)", "order_for(cloth, state, limits, *, number, end, count)",
                "total_range(cloth, state, limits)", "order_for_total(cloth, state, limits, *, count)"),
    "texts": ("format_cloth(cloth)", "format_state(state)", "format_move(move)", "parse_cloth(text)",
              "parse_state(cloth, text)"),
}
CLASSES = {
    ("cloths", "Cloth"): ("__init__(self, rows, zips=())", "rows(self)", "zips(self)", "row_of(self, number, side)"),
    ("workspaces", "Workspace"): (
        "__init__(self, cloth, state)", "do(self, action)", "cloth(self)", "state(self)", "undo(self)",
        "save(self, name)", "saved(self)", "distance_to(self, name)", "path_to(self, name)",
        "close_all(self, limits, *, choose=None)", "clone(self)"),
    ("console", "Console"): ("__init__(self)", "workspace(self)", "run(self, command)"),
}


def written(function):
    return function.__name__ + str(inspect.signature(function))


class InterfaceTest(unittest.TestCase):
    def test_functions(self):
        for file, entries in FUNCTIONS.items():
            module = importlib.import_module("zipslack." + file)
            for entry in entries:
                function = getattr(module, entry.split("(")[0])
                self.assertEqual(written(function), entry)
                self.assertEqual(function.__module__, module.__name__)

    def test_classes(self):
        for (file, name), entries in CLASSES.items():
            module = importlib.import_module("zipslack." + file)
            owner = getattr(module, name)
            self.assertEqual(owner.__module__, module.__name__)
            for entry in entries:
                self.assertEqual(written(vars(owner)[entry.split("(")[0]]), entry)


if __name__ == "__main__":
    unittest.main()
