"""The files of the package keep to the rules of LANGUAGE.md, as far as a program can see this simply.

These tests are stricter than the rules where the package does not need what a rule allows.
"""

import ast
import builtins
import pathlib
import re
import unittest
import warnings

PACKAGE = pathlib.Path(__file__).resolve().parent.parent / "wayfill"
FILES = sorted(path for path in PACKAGE.rglob("*") if path.is_file() and "__pycache__" not in path.parts)

NODES = set("""
Module Expr ImportFrom alias FunctionDef arguments arg ClassDef Assign AugAssign If While For Return Raise Try
ExceptHandler Pass Break Continue Constant Name Attribute Subscript Slice Call keyword BinOp UnaryOp BoolOp Compare
IfExp List Tuple Dict ListComp DictComp comprehension Starred JoinedStr FormattedValue Load Store Delete Del Add Sub
Mult FloorDiv Mod USub And Or Not Eq NotEq Lt LtE Gt GtE Is IsNot In NotIn
""".split())

BUILTINS = set("""
len range enumerate zip min max sum abs sorted reversed int str bool list tuple dict set isinstance ord repr any all
divmod iter ValueError KeyError
""".split())

METHODS = set("""
append copy count endswith extend find get index insert isalnum isalpha isdigit islower isupper items join keys ljust
lower lstrip partition pop remove replace reverse rfind rjust rpartition rsplit rstrip setdefault split startswith strip
update upper values zfill bit_length
""".split())

AT_ONCE = {"range", "zip", "enumerate", "reversed", "items", "keys", "values"}
TAKERS = {"list", "tuple", "dict", "sorted", "sum", "any", "all", "enumerate", "zip", "min", "max", "len"}
SPECIAL = {"__init__", "__eq__", "__len__", "__iter__", "__contains__", "__bool__", "__add__", "__sub__", "__mul__",
           "__neg__"}
BARRED = {"register", "mro", "elements", "open", "input", "law", "version_info", "with_traceback", "add_note", "type",
          "typing", "enum", "dataclass", "overload", "contextmanager", "eval", "exec", "compile", "vars", "globals"}


TREES = {path: ast.parse(path.read_text()) for path in FILES}


def bound_names(tree):
    """All names that are given a meaning, with their nodes."""
    for node in ast.walk(tree):
        if isinstance(node, (ast.FunctionDef, ast.ClassDef)):
            yield node.name, node
        elif isinstance(node, ast.arg):
            yield node.arg, node
        elif isinstance(node, ast.Name) and isinstance(node.ctx, ast.Store):
            yield node.id, node
        elif isinstance(node, ast.alias):
            yield node.name, node


class TestLanguage(unittest.TestCase):

    def each(self, *kinds):
        for path, tree in TREES.items():
            for node in ast.walk(tree):
                if isinstance(node, kinds):
                    yield node, f"{path.name}:{getattr(node, 'lineno', 0)}"

    def test_files_and_characters(self):
        self.assertIn(PACKAGE / "__init__.py", FILES)
        for path in FILES:
            self.assertRegex(path.name, r"^[a-z0-9_]+\.py$")
            text = path.read_bytes().decode("ascii")
            self.assertTrue(all(character == "\n" or " " <= character <= "~" for character in text), path)
            self.assertLessEqual(len(text.splitlines()), 399, path)
            self.assertLessEqual(max([len(line) for line in text.splitlines()], default=0), 120, path)

    def test_statements_and_expressions(self):
        for node, place in self.each(ast.AST):
            self.assertIn(type(node).__name__, NODES, place)

    def test_functions(self):
        for node, place in self.each(ast.FunctionDef):
            self.assertLessEqual(node.end_lineno - node.lineno + 1, 40, place)
            self.assertIsNone(node.returns, place)
            marks = [getattr(mark, "id", mark) for mark in node.decorator_list]
            self.assertIn(marks, [[], ["property"], ["staticmethod"]], place)
            if node.name.startswith("__"):
                self.assertIn(node.name, SPECIAL, place)
        for node, place in self.each(ast.arg):
            self.assertIsNone(node.annotation, place)

    def test_module_level(self):
        for path, tree in TREES.items():
            functions = []
            for node in tree.body:
                if isinstance(node, ast.FunctionDef):
                    functions.append(node.name)
                self.assertIsInstance(node, (ast.Expr, ast.ImportFrom, ast.FunctionDef, ast.ClassDef, ast.Assign), path)
                if isinstance(node, ast.Expr):
                    self.assertIsInstance(node.value, ast.Constant, path)
                if isinstance(node, ast.Assign):
                    self.assertEqual([type(target) for target in node.targets], [ast.Name], path)
                    if isinstance(node.value, ast.Dict) and isinstance(node.value.values[0], ast.Name):
                        self.assertTrue(all(value.id in functions for value in node.value.values), path)
                    else:
                        ast.literal_eval(node.value)

    def test_imports(self):
        reached = {}
        for path, tree in TREES.items():
            reached[path.stem] = set()
            for node in [node for node in ast.walk(tree) if isinstance(node, ast.ImportFrom)]:
                self.assertTrue(all(name.asname is None for name in node.names), path)
                if node.module == "math":
                    self.assertEqual([name.name for name in node.names], ["gcd"])
                    continue
                self.assertRegex(node.module, r"^wayfill\.[a-z]+$")
                source = ast.parse((PACKAGE / (node.module.split(".")[1] + ".py")).read_text())
                defined = [getattr(one, "name", None) or getattr(one, "targets", [one])[0].id for one in source.body
                           if isinstance(one, (ast.FunctionDef, ast.ClassDef, ast.Assign))]
                for name in node.names:
                    self.assertIn(name.name, defined, path)
                reached[path.stem].add(node.module.split(".")[1])
        for start in reached:
            self.assertNotIn(start, self.behind(reached, start))

    def behind(self, reached, start):
        """All modules that a module imports, also through others."""
        found = set()
        waiting = list(reached[start])
        while waiting:
            module = waiting.pop()
            if module not in found:
                found.add(module)
                waiting.extend(reached[module])
        return found

    def test_imports_are_used(self):
        for path, tree in TREES.items():
            used = {node.id for node in ast.walk(tree) if isinstance(node, ast.Name)}
            for node in [node for node in ast.walk(tree) if isinstance(node, ast.alias)]:
                self.assertIn(node.name, used, path)

    def test_names(self):
        for path, tree in TREES.items():
            fixed = {node.name for node in ast.walk(tree) if isinstance(node, (ast.alias, ast.ClassDef))}
            for name, node in bound_names(tree):
                place = f"{path.name}: {name}"
                self.assertFalse(hasattr(builtins, name) and not name.startswith("__"), place)
                self.assertNotIn(name, BARRED, place)
                self.assertRegex(name, r"^(_?[A-Za-z][A-Za-z0-9_]*|_|__[a-z]+__)$", place)
                if isinstance(node, (ast.arg, ast.Name)):
                    self.assertNotIn(name, fixed, place)

    def test_builtins_and_methods(self):
        methods = {node.name for node, _ in self.each(ast.FunctionDef)}
        for node, place in self.each(ast.Call):
            if isinstance(node.func, ast.Attribute):
                self.assertIn(node.func.attr, METHODS | methods, place)
        for node, place in self.each(ast.Name):
            if hasattr(builtins, node.id):
                self.assertIn(node.id, BUILTINS | {"property", "staticmethod"}, place)

    def test_operators(self):
        for node, place in self.each(ast.FunctionDef):
            last = ast.unparse(node.body[-1])
            if node.name == "__iter__":
                self.assertRegex(last, r"^return iter\(self\._[a-z]+\)$", place)
            elif node.name == "__len__":
                self.assertRegex(last, r"^return len\(self\._[a-z]+\)$", place)
            elif node.name == "__bool__":
                self.assertRegex(last, r"^return bool\(self\._[a-z]+\)$", place)
            elif node.name == "__eq__":
                self.assertRegex(last, r"^return isinstance\(other, [A-Z][a-z]+\) and ", place)
            elif node.name.startswith("__") and node.name != "__init__":
                stored = [one for one in ast.walk(node) if isinstance(one, (ast.Attribute, ast.Subscript))
                          and isinstance(one.ctx, ast.Store)]
                self.assertEqual(stored, [], place)
                self.assertEqual(ast.unparse(node.args), "self" if node.name == "__neg__" else
                                 "self, " + node.args.args[-1].arg, place)

    def test_attributes(self):
        methods = {node.name for tree, _ in self.each(ast.ClassDef) for node in tree.body
                   if isinstance(node, ast.FunctionDef)}
        stored = {node.attr for node, _ in self.each(ast.Attribute) if isinstance(node.ctx, ast.Store)}
        self.assertEqual(stored & methods, set())
        for name in (stored | methods) - SPECIAL:
            self.assertFalse(any(hasattr(kind, name) for kind in (str, int, list, dict, set, tuple, bytes)), name)
        for node, place in self.each(ast.Attribute):
            self.assertIn(node.attr, stored | methods | METHODS, place)

    def test_iterated_at_once(self):
        allowed = set()
        for node, _ in self.each(ast.For, ast.comprehension):
            allowed.add(node.iter)
        calls = [(node, place) for node, place in self.each(ast.Call)]
        for node, place in calls:
            if getattr(node.func, "id", getattr(node.func, "attr", None)) in TAKERS | {"join"}:
                allowed.update(node.args)
            if getattr(node.func, "id", None) == "reversed" and getattr(node.args[0], "func", None) is not None:
                allowed.update([one for one in node.args if getattr(one.func, "id", None) == "range"])
        for node, place in calls:
            if getattr(node.func, "id", getattr(node.func, "attr", None)) in AT_ONCE:
                self.assertTrue(any(node is other for other in allowed), place)

    def test_sets_are_only_measured(self):
        measured = [node.args[0] for node, _ in self.each(ast.Call)
                    if getattr(node.func, "id", None) in ("len", "sorted")]
        for node, place in self.each(ast.Call):
            if getattr(node.func, "id", None) in ("set", "frozenset"):
                self.assertTrue(any(node is other for other in measured), place)

    def test_comparisons_by_is(self):
        for node, place in self.each(ast.Compare):
            for sign, right in zip(node.ops, node.comparators):
                if isinstance(sign, (ast.Is, ast.IsNot)):
                    self.assertIsInstance(right, ast.Constant, place)
                    self.assertIn(right.value, (None, True, False), place)

    def test_errors(self):
        own = {node.name for node, _ in self.each(ast.ClassDef)}
        for node, place in self.each(ast.ExceptHandler):
            self.assertIn(node.type.id, own | {"KeyError"}, place)
        for node, place in self.each(ast.Raise):
            if node.exc is not None:
                self.assertIsInstance(node.exc, ast.Call, place)
                self.assertIn(node.exc.func.id, own, place)

    def test_values(self):
        for node, place in self.each(ast.Constant):
            if isinstance(node.value, str):
                self.assertNotIn("%", node.value, place)
            else:
                self.assertIsInstance(node.value, (int, type(None)), place)

    def test_words_in_strings(self):
        documented = [node.body[0].value for node, _ in self.each(ast.Module, ast.ClassDef, ast.FunctionDef)
                      if node.body and isinstance(node.body[0], ast.Expr)]
        for node, place in self.each(ast.Constant):
            if isinstance(node.value, str) and not any(node is other for other in documented):
                self.assertEqual(set(re.findall("[A-Za-z_]+", node.value)) & BARRED, set(), place)
                self.assertFalse(node.value.endswith(("._", ".__")) or "__" in node.value, place)

    def test_no_warnings(self):
        with warnings.catch_warnings():
            warnings.simplefilter("error")
            for path in FILES:
                compile(path.read_text(), str(path), "exec")


if __name__ == "__main__":
    unittest.main()
