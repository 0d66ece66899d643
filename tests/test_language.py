"""The rules of the language that a look at the files of the package can decide."""

import ast
import builtins
import os
import re
import unittest
import warnings

PACKAGE = os.path.join(os.path.dirname(os.path.dirname(os.path.abspath(__file__))), "leastguards")
ALLOWED_BUILTINS = set("""len range enumerate zip min max sum abs sorted reversed int str bool bytes
    list tuple dict set frozenset isinstance ord repr any all divmod iter next super property
    staticmethod classmethod Exception ValueError TypeError KeyError IndexError LookupError
    ZeroDivisionError ArithmeticError OverflowError RuntimeError NotImplementedError AttributeError
    StopIteration NotImplemented""".split())
BARRED_WORDS = re.compile(r"\b(type|typing|typing_extensions|enum|Enum|IntEnum|StrEnum|Flag|IntFlag"
                          r"|Generic|Protocol|ABC|ABCMeta|namedtuple|NamedTuple|TypedDict"
                          r"|TYPE_CHECKING|abstractmethod)\b|dataclass|overload|contextmanager")
BARRED_NAMES = set("register mro elements open input law version_info with_traceback".split())
DOUBLE_UNDERSCORE = set("""init eq repr str len enter exit call iter lt le gt ge ne add sub mul
    floordiv mod pow and or xor lshift rshift neg pos invert abs bool contains getitem
    setitem""".split())
for reflected in "add sub mul floordiv mod and or xor lshift rshift".split():
    DOUBLE_UNDERSCORE |= {"r" + reflected, "i" + reflected}
BUILTIN_METHODS = set("""append clear copy get items pop setdefault values add discard
    bit_length""".split())
STATEMENTS = (ast.Assign, ast.AugAssign, ast.AnnAssign, ast.If, ast.While, ast.For, ast.Return,
              ast.Break, ast.Continue, ast.Pass, ast.Raise, ast.Assert, ast.Delete, ast.Nonlocal,
              ast.Match, ast.With, ast.Try, ast.Expr, ast.FunctionDef, ast.ClassDef,
              ast.ImportFrom)


def package_files():
    """The text of each file of the package under its name."""
    texts = {}
    for folder, inner, names in os.walk(PACKAGE):
        inner[:] = [name for name in inner if name != "__pycache__"]
        for name in names:
            with open(os.path.join(folder, name), encoding="utf-8", newline="") as file:
                texts[os.path.relpath(os.path.join(folder, name), PACKAGE)] = file.read()
    return texts


TEXTS = package_files()


def nodes(text, *kinds):
    return [node for node in ast.walk(ast.parse(text)) if isinstance(node, kinds)]


def bound_names(text):
    """All names that a file gives to something."""
    names = [node.id for node in nodes(text, ast.Name) if not isinstance(node.ctx, ast.Load)]
    names += [node.arg for node in nodes(text, ast.arg)]
    names += [node.name for node in nodes(text, ast.FunctionDef, ast.ClassDef)]
    names += [node.asname or node.name for node in nodes(text, ast.alias)]
    return names + [node.attr for node in nodes(text, ast.Attribute)]


def is_set(node):
    return isinstance(node, (ast.Set, ast.SetComp)) or (
        isinstance(node, ast.Call) and ast.unparse(node.func) == "set")


def stored_sets(function):
    """The names of the local variables to which the function assigns sets."""
    return {ast.unparse(node.targets[0]) for node in ast.walk(function)
            if isinstance(node, ast.Assign) and is_set(node.value)}


def assignments_of(function, name):
    return len([node for node in ast.walk(function) if isinstance(node, ast.Name)
                and node.id == name and isinstance(node.ctx, ast.Store)])


def uses_of(function, name):
    """What the function does with the name, as code in which the name is NAME."""
    uses = []
    for node in ast.walk(function):
        for child in ast.iter_child_nodes(node):
            if isinstance(child, ast.Name) and child.id == name:
                if isinstance(node, ast.Attribute):
                    node = [call for call in ast.walk(function) if isinstance(call, ast.Call)
                            and call.func is node][0]
                uses.append(re.sub(rf"\b{name}\b", "NAME", ast.unparse(node)))
    return uses


class LanguageTest(unittest.TestCase):
    def test_the_package_is_found(self):
        self.assertIn("__init__.py", TEXTS)

    def test_files_are_plain(self):
        for name, text in TEXTS.items():
            self.assertRegex(name, r"^[a-z0-9_]+\.py$")
            self.assertIsNone(re.search(r"[^ -~\n]", text))
            self.assertLessEqual(len(text.splitlines()), 399)
            self.assertLessEqual(max([len(line) for line in text.splitlines()]), 120)

    def test_functions_are_short(self):
        for text in TEXTS.values():
            for node in nodes(text, ast.FunctionDef):
                self.assertLessEqual(node.end_lineno - node.lineno + 1, 40, node.name)

    def test_barred_words_do_not_occur(self):
        for text in TEXTS.values():
            self.assertIsNone(BARRED_WORDS.search(text))

    def test_no_name_is_barred(self):
        for text in TEXTS.values():
            for name in bound_names(text):
                self.assertNotIn(name, BARRED_NAMES)
                if name.startswith("_"):
                    self.assertIn(name[2:-2], DOUBLE_UNDERSCORE, name)

    def test_no_builtin_gets_another_meaning(self):
        for text in TEXTS.values():
            names = [node.id for node in nodes(text, ast.Name) if isinstance(node.ctx, ast.Store)]
            names += [node.arg for node in nodes(text, ast.arg)]
            names += [node.name for node in nodes(text, ast.FunctionDef, ast.ClassDef)]
            for name in names:
                if not name.startswith("__"):
                    self.assertNotIn(name, vars(builtins))

    def test_only_allowed_builtins_are_used(self):
        for text in TEXTS.values():
            bound = bound_names(text)
            for node in nodes(text, ast.Name):
                if node.id in vars(builtins) and node.id not in bound:
                    self.assertIn(node.id, ALLOWED_BUILTINS)

    def test_imports_are_from_the_package(self):
        for text in TEXTS.values():
            self.assertEqual(nodes(text, ast.Import), [])
            for node in nodes(text, ast.ImportFrom):
                self.assertEqual(node.level, 0)
                self.assertRegex(node.module, r"^(leastguards\.[a-z_]+|__future__)$")
                self.assertNotIn("*", [alias.name for alias in node.names])

    def test_only_allowed_statements(self):
        for text in TEXTS.values():
            for node in nodes(text, ast.stmt):
                self.assertIsInstance(node, STATEMENTS)

    def test_no_floats_no_division_no_percent_signs(self):
        for text in TEXTS.values():
            self.assertEqual(nodes(text, ast.Div), [])
            for node in nodes(text, ast.Constant):
                self.assertNotIsInstance(node.value, (float, complex))
                self.assertFalse(isinstance(node.value, str) and "%" in node.value)

    def test_no_function_has_a_decorator_but_those_of_methods(self):
        for text in TEXTS.values():
            for node in nodes(text, ast.FunctionDef, ast.ClassDef):
                for mark in node.decorator_list:
                    self.assertRegex(ast.unparse(mark),
                                     r"^(property|staticmethod|classmethod|[a-z_]+\.setter)$")

    def test_no_generator_expressions(self):
        # With classes that have operators, any, all and their like take a list.
        for text in TEXTS.values():
            self.assertEqual(nodes(text, ast.GeneratorExp), [])

    def test_no_name_is_a_method_and_an_attribute(self):
        methods, attributes = set(), set()
        for text in TEXTS.values():
            for told in nodes(text, ast.ClassDef):
                methods |= {node.name for node in told.body if isinstance(node, ast.FunctionDef)}
            attributes |= {node.attr for node in nodes(text, ast.Attribute)
                           if isinstance(node.ctx, ast.Store)}
        self.assertEqual(methods & attributes, set())

    def test_imports_name_the_file_that_defines_the_name(self):
        for text in TEXTS.values():
            for node in nodes(text, ast.ImportFrom):
                source = TEXTS[node.module.split(".")[1] + ".py"]
                defined = {inner.name for inner in nodes(source, ast.FunctionDef, ast.ClassDef)}
                self.assertLessEqual({alias.name for alias in node.names}, defined)

    def test_no_local_name_is_an_import_or_a_class(self):
        for text in TEXTS.values():
            taken = {alias.name for node in nodes(text, ast.ImportFrom) for alias in node.names}
            taken |= {node.name for node in nodes(text, ast.ClassDef)}
            local = {node.id for node in nodes(text, ast.Name) if isinstance(node.ctx, ast.Store)}
            local |= {node.arg for node in nodes(text, ast.arg)}
            self.assertEqual(taken & local, set())

    def test_is_only_with_constants(self):
        for text in TEXTS.values():
            for node in nodes(text, ast.Compare):
                for sign, right in zip(node.ops, node.comparators):
                    if isinstance(sign, (ast.Is, ast.IsNot)):
                        self.assertIn(ast.unparse(right), ("None", "True", "False"))

    def test_stored_sets_are_only_asked(self):
        for text in TEXTS.values():
            for function in nodes(text, ast.FunctionDef):
                for name in stored_sets(function):
                    for use in uses_of(function, name):
                        self.assertRegex(use, r"^([^=]* (not )?in NAME|sorted\(NAME\)|len\(NAME\)"
                                              r"|NAME\.(add|discard)\(.*\)|NAME = .*)$")
                    self.assertEqual(assignments_of(function, name), 1)

    def test_exit_methods_only_put_back(self):
        for text in TEXTS.values():
            for function in nodes(text, ast.FunctionDef):
                if function.name == "__exit__":
                    for row in function.body:
                        self.assertRegex(ast.unparse(row), r"^self\.[a-z_]+( = self\.[a-z_]+"
                                                           r"|\.append\(self\.[a-z_]+\)|\.clear\(\))$")

    def test_only_some_methods_of_builtin_values(self):
        own = {node.name for text in TEXTS.values() for node in nodes(text, ast.FunctionDef)}
        for text in TEXTS.values():
            for node in nodes(text, ast.Call):
                if isinstance(node.func, ast.Attribute):
                    self.assertIn(node.func.attr, own | BUILTIN_METHODS | {"__init__"})

    def test_stars_stand_over_names(self):
        for text in TEXTS.values():
            for node in nodes(text, ast.Starred):
                self.assertIsInstance(node.value, ast.Name)

    def test_a_class_with_items_refuses_to_be_iterated_over(self):
        for text in TEXTS.values():
            for told in nodes(text, ast.ClassDef):
                methods = {node.name for node in told.body if isinstance(node, ast.FunctionDef)}
                self.assertTrue("__getitem__" not in methods or "__iter__" in methods, told.name)

    def test_python_gives_no_warning(self):
        for name, text in TEXTS.items():
            with warnings.catch_warnings():
                warnings.simplefilter("error")
                compile(text, name, "exec")


if __name__ == "__main__":
    unittest.main()
