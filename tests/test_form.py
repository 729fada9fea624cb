"""The parts of the language rules that can be seen without running the program."""

import ast
import builtins
import pathlib
import re
import unittest

PACKAGE = pathlib.Path(__file__).resolve().parent.parent / "zipslack"
BARRED = (
    "type typing typing_extensions enum Enum IntEnum StrEnum Flag IntFlag Generic Protocol ABC ABCMeta "
    "namedtuple NamedTuple TypedDict TYPE_CHECKING abstractmethod"
).split()
BUILTINS_OVER_LISTS = ("any", "all", "min", "max", "sum", "sorted")


def sources():
    return [(path.name, path.read_text("utf-8")) for path in sorted(PACKAGE.glob("*.py"))]


def nodes(kind):
    return [(name, node) for name, text in sources() for node in ast.walk(ast.parse(text)) if isinstance(node, kind)]


def imported(text):
    return [node.module.split(".")[-1] for node in ast.parse(text).body if isinstance(node, ast.ImportFrom)]


def bound_names(tree):
    """The names that are given a meaning somewhere in a tree, imports aside."""
    for node in ast.walk(tree):
        if isinstance(node, ast.Name) and isinstance(node.ctx, ast.Store):
            yield node.id
        elif isinstance(node, ast.arg):
            yield node.arg
        elif isinstance(node, (ast.FunctionDef, ast.ClassDef)):
            yield node.name


def bound_inside(function):
    """The names of the parameters and local variables of a function."""
    return set(bound_names(function)) - {function.name}


class FormTest(unittest.TestCase):
    def test_the_folder_holds_source_files_only(self):
        for path in PACKAGE.iterdir():
            if path.name != "__pycache__":
                self.assertRegex(path.name, "^[a-z0-9_]+[.]py$")

    def test_sizes(self):
        for name, text in sources():
            self.assertLessEqual(len(text.splitlines()), 399, name)
            for line in text.splitlines():
                self.assertLessEqual(len(line), 120, name)
        for name, node in nodes(ast.FunctionDef):
            self.assertLessEqual(node.end_lineno - node.lineno + 1, 40, (name, node.name))

    def test_characters_and_words(self):
        for name, text in sources():
            self.assertRegex(text, "^[ -~\n]*$", name)
            for word in BARRED:
                self.assertIsNone(re.search(r"\b" + word + r"\b", text), (name, word))
            self.assertIsNone(re.search("dataclass|overload|contextmanager", text), name)

    def test_imports_name_modules_of_the_package(self):
        self.assertEqual(nodes(ast.Import), [])
        for name, node in nodes(ast.ImportFrom):
            self.assertEqual(node.level, 0, name)
            self.assertTrue(node.module.startswith("zipslack."), (name, node.module))

    def test_no_two_files_import_each_other(self):
        waiting = {name[:-3]: imported(text) for name, text in sources()}
        while waiting:
            ready = [name for name in waiting if not set(waiting[name]) & set(waiting)]
            self.assertTrue(ready, waiting)
            for name in ready:
                del waiting[name]

    def test_is_only_beside_none_true_and_false(self):
        for name, node in nodes(ast.Compare):
            for sign, side in zip(node.ops, node.comparators):
                if isinstance(sign, (ast.Is, ast.IsNot)):
                    self.assertTrue(isinstance(side, ast.Constant) and side.value in (None, True, False), name)

    def test_no_generator_where_a_list_is_required(self):
        for name, node in nodes(ast.Call):
            if isinstance(node.func, ast.Name) and node.func.id in BUILTINS_OVER_LISTS:
                for argument in node.args:
                    self.assertNotIsInstance(argument, ast.GeneratorExp, (name, node.lineno))

    def test_no_name_of_a_builtin_has_another_meaning(self):
        for name, text in sources():
            taken = set(bound_names(ast.parse(text))) & set(dir(builtins))
            self.assertEqual(sorted(word for word in taken if not word.startswith("__")), [], name)

    def test_no_local_variable_has_the_name_of_an_import(self):
        for name, text in sources():
            tree = ast.parse(text)
            imports = {alias.name for node in tree.body if isinstance(node, ast.ImportFrom) for alias in node.names}
            for node in ast.walk(tree):
                if isinstance(node, ast.FunctionDef):
                    self.assertEqual(bound_inside(node) & imports, set(), (name, node.name))

    def test_every_import_is_used(self):
        for name, text in sources():
            tree = ast.parse(text)
            imports = {alias.name for node in tree.body if isinstance(node, ast.ImportFrom) for alias in node.names}
            used = {node.id for node in ast.walk(tree) if isinstance(node, ast.Name)}
            self.assertEqual(imports - used, set(), name)

    def test_no_percent_sign_in_strings(self):
        for name, node in nodes(ast.Constant):
            if isinstance(node.value, str):
                self.assertNotIn("%", node.value, name)
            self.assertNotIsInstance(node.value, (float, complex), name)

    def test_no_name_is_both_a_method_and_an_attribute(self):
        methods = {node.name for name, owner in nodes(ast.ClassDef) for node in owner.body
                   if isinstance(node, ast.FunctionDef)}
        stored = {node.attr for name, node in nodes(ast.Attribute) if isinstance(node.ctx, ast.Store)}
        self.assertEqual(methods & stored, set())


if __name__ == "__main__":
    unittest.main()
