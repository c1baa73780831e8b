"""The rules of the Python subset that can be seen in a file's form."""

import ast
import builtins
import pathlib
import re
import unittest

PACKAGE = pathlib.Path(__file__).resolve().parent.parent / "keptrest"
FILES = sorted(PACKAGE.glob("*.py"))
ALLOWED_BUILTINS = set((
    "len range enumerate zip min max sum abs sorted reversed int str bool list tuple dict set isinstance ord repr "
    "any all divmod type ValueError KeyError").split())
ALL_BUILTINS = {name for name in dir(builtins) if not name.startswith("_")}
BARRED = set(("register mro elements open input law version_info with_traceback add_note attrgetter breakpoint "
              "builtins compile copyright credits delattr dir eval exec exit gc globals help id importlib license "
              "locals methodcaller os quit super vars sys").split())
BARRED_ATTRIBUTES = set(("items keys values pop update append clear extend insert remove reverse setdefault sort args "
                         "encode decode hex fromhex format format_map mro").split())
METHODS = set(("append clear copy count endswith extend find get index insert isalnum isalpha isdigit islower isspace "
               "isupper items join keys ljust lower lstrip partition pop remove replace reverse rfind rjust rpartition "
               "rsplit rstrip setdefault split splitlines startswith strip update upper values zfill "
               "bit_length from_iterable").split())


SPECIAL = {"__init__", "__eq__", "__ne__", "__len__", "__enter__", "__exit__"}


def trees():
    for file in FILES:
        yield file, ast.parse(file.read_text())


def bound_names(tree):
    for node in ast.walk(tree):
        if isinstance(node, (ast.FunctionDef, ast.ClassDef)):
            yield node.name
        elif isinstance(node, ast.arg):
            yield node.arg
        elif isinstance(node, ast.Name) and not isinstance(node.ctx, ast.Load):
            yield node.id
        elif isinstance(node, ast.alias):
            yield node.name


class Files(unittest.TestCase):
    def test_folder_has_only_files_of_the_package(self):
        names = {path.name for path in PACKAGE.iterdir() if path.name != "__pycache__"}
        self.assertEqual(names, {file.name for file in FILES})

    def test_lines_and_characters(self):
        for file in FILES:
            text = file.read_text()
            lines = text.splitlines()
            self.assertLessEqual(len(lines), 399, file.name)
            self.assertTrue(all(len(line) <= 120 for line in lines), file.name)
            self.assertTrue(all(sign == "\n" or " " <= sign <= "~" for sign in text), file.name)

    def test_functions_are_small(self):
        for file, tree in trees():
            for node in ast.walk(tree):
                if isinstance(node, ast.FunctionDef):
                    self.assertLessEqual(node.end_lineno - node.lineno + 1, 40, (file.name, node.name))

    def test_module_level(self):
        allowed = (ast.ImportFrom, ast.FunctionDef, ast.ClassDef, ast.Assign)
        for file, tree in trees():
            seen = set()
            for node in tree.body:
                if isinstance(node, ast.Expr):
                    self.assertIsInstance(node.value, ast.Constant)
                    continue
                self.assertIsInstance(node, allowed, (file.name, node.lineno))
                names = [node.name] if hasattr(node, "name") else []
                if isinstance(node, ast.Assign):
                    names = [node.targets[0].id]
                    self.assertEqual(len(node.targets), 1)
                    self.assertFalse([part for part in ast.walk(node.value) if isinstance(part, ast.Call)])
                if isinstance(node, ast.ImportFrom):
                    names = [alias.name for alias in node.names]
                for name in names:
                    self.assertNotIn(name, seen, (file.name, name))
                    seen.add(name)


class Imports(unittest.TestCase):
    def graph(self):
        found = {}
        for file, tree in trees():
            found[file.stem] = [node for node in ast.walk(tree) if isinstance(node, (ast.Import, ast.ImportFrom))]
        return found

    def test_only_from_the_defining_file(self):
        defined = {}
        for file, tree in trees():
            defined[file.stem] = {node.name for node in tree.body if isinstance(node, (ast.FunctionDef, ast.ClassDef))}
            for node in tree.body:
                if isinstance(node, ast.Assign):
                    defined[file.stem].add(node.targets[0].id)
        for name, nodes in self.graph().items():
            for node in nodes:
                self.assertIsInstance(node, ast.ImportFrom, name)
                if node.module == "itertools":
                    self.assertEqual([alias.name for alias in node.names], ["chain"])
                    continue
                package, module = node.module.split(".")
                self.assertEqual((package, node.level), ("keptrest", 0), name)
                for alias in node.names:
                    self.assertIn(alias.name, defined[module], name)
                    self.assertIsNone(alias.asname)

    def test_all_imports_are_used(self):
        for file, tree in trees():
            used = {node.id for node in ast.walk(tree) if isinstance(node, ast.Name)}
            for node in ast.walk(tree):
                if isinstance(node, ast.ImportFrom):
                    for alias in node.names:
                        self.assertIn(alias.name, used, (file.name, alias.name))

    def test_no_rings(self):
        below = {name: {node.module.split(".")[1] for node in nodes if "." in node.module} for name, nodes in self.graph().items()}
        while below:
            free = [name for name, others in below.items() if not others & set(below)]
            self.assertTrue(free, sorted(below))
            for name in free:
                del below[name]


class Names(unittest.TestCase):
    def test_names(self):
        for file, tree in trees():
            for name in bound_names(tree):
                self.assertNotIn(name, ALL_BUILTINS | BARRED, (file.name, name))
                if name not in SPECIAL | {"_"}:
                    self.assertTrue(re.fullmatch("_?[A-Za-z][A-Za-z0-9_]*", name), (file.name, name))

    def test_no_local_name_hides_a_module_level_one(self):
        for file, tree in trees():
            top = {node.name for node in tree.body if isinstance(node, (ast.FunctionDef, ast.ClassDef))}
            for node in tree.body:
                if isinstance(node, ast.ImportFrom):
                    top |= {alias.name for alias in node.names}
            for function in ast.walk(tree):
                if isinstance(function, ast.FunctionDef):
                    for node in ast.walk(function):
                        if isinstance(node, ast.arg):
                            self.assertNotIn(node.arg, top, (file.name, node.arg))
                        if isinstance(node, ast.Name) and not isinstance(node.ctx, ast.Load):
                            self.assertNotIn(node.id, top, (file.name, node.id))

    def test_builtins_and_attributes(self):
        own = set()
        for _, tree in trees():
            for node in ast.walk(tree):
                if isinstance(node, ast.ClassDef):
                    own |= {part.name for part in node.body if isinstance(part, ast.FunctionDef)}
        for file, tree in trees():
            for node in ast.walk(tree):
                if isinstance(node, ast.Name) and node.id in ALL_BUILTINS:
                    self.assertIn(node.id, ALLOWED_BUILTINS, (file.name, node.lineno))
                if isinstance(node, ast.Attribute) and not isinstance(node.ctx, ast.Load):
                    self.assertNotIn(node.attr, BARRED_ATTRIBUTES, (file.name, node.lineno))
                if isinstance(node, ast.Call) and isinstance(node.func, ast.Attribute):
                    self.assertIn(node.func.attr, own | METHODS, (file.name, node.lineno))

    def test_attributes_are_assigned_through_local_names(self):
        for file, tree in trees():
            for node in ast.walk(tree):
                if isinstance(node, ast.Attribute) and isinstance(node.ctx, ast.Store):
                    self.assertIsInstance(node.value, ast.Name, (file.name, node.lineno))

    def test_names_of_methods_are_no_attributes(self):
        methods = set()
        attributes = set()
        for _, tree in trees():
            for node in ast.walk(tree):
                if isinstance(node, ast.ClassDef):
                    methods |= {part.name for part in node.body if isinstance(part, ast.FunctionDef)}
                if isinstance(node, ast.Attribute) and isinstance(node.ctx, ast.Store):
                    attributes.add(node.attr)
        self.assertEqual(methods & attributes, set())


def is_simple(node):
    """True for what may stand behind a star in a call: names, attributes off a name, literals, lists of these."""
    if isinstance(node, (ast.Name, ast.Constant)):
        return True
    if isinstance(node, ast.Attribute):
        return isinstance(node.value, ast.Name)
    return isinstance(node, (ast.List, ast.Tuple)) and all(is_simple(part) for part in node.elts)


class Calls(unittest.TestCase):
    def test_stars(self):
        for file, tree in trees():
            for node in ast.walk(tree):
                if isinstance(node, ast.Call):
                    stars = [k for k, part in enumerate(node.args) if isinstance(part, ast.Starred)]
                    for part in node.args[stars[0]:] if stars else []:
                        part = part.value if isinstance(part, ast.Starred) else part
                        self.assertTrue(is_simple(part), (file.name, node.lineno))

    def test_generators_and_views_are_iterated_at_once(self):
        takers = {"list", "tuple", "dict", "sorted", "sum", "min", "max", "any", "all", "enumerate", "zip", "reversed", "len"}
        for file, tree in trees():
            above = {child: node for node in ast.walk(tree) for child in ast.iter_child_nodes(node)}
            for node in ast.walk(tree):
                view = isinstance(node, ast.Call) and (
                    isinstance(node.func, ast.Name) and node.func.id in ("zip", "enumerate", "reversed", "range")
                    or isinstance(node.func, ast.Attribute) and node.func.attr in ("items", "values", "keys"))
                if view or isinstance(node, ast.GeneratorExp):
                    taker = above[node]
                    at_once = isinstance(taker, (ast.For, ast.comprehension)) or (
                        isinstance(taker, ast.Call) and isinstance(taker.func, ast.Name) and taker.func.id in takers)
                    self.assertTrue(at_once, (file.name, node.lineno))

    def test_keywords(self):
        for file, tree in trees():
            for node in ast.walk(tree):
                if isinstance(node, ast.Call):
                    for word in node.keywords:
                        self.assertIn((node.func.id, word.arg), (("sorted", "key"), ("max", "default")), (file.name, node.lineno))


class Statements(unittest.TestCase):
    def test_statements(self):
        barred = (ast.AsyncFunctionDef, ast.Global, ast.Nonlocal, ast.With, ast.GeneratorExp, ast.Yield, ast.YieldFrom, ast.Set,
                  ast.SetComp, ast.Div, ast.AnnAssign, ast.Starred)
        for file, tree in trees():
            for node in ast.walk(tree):
                if not isinstance(node, ast.Starred):
                    self.assertNotIsInstance(node, barred, (file.name, getattr(node, "lineno", 0)))
                if isinstance(node, ast.FunctionDef):
                    self.assertEqual(node.decorator_list, [])
                if isinstance(node, ast.Constant):
                    self.assertNotIsInstance(node.value, (float, complex))

    def test_is_only_for_none_and_truths_and_classes(self):
        for file, tree in trees():
            for node in ast.walk(tree):
                if isinstance(node, ast.Compare) and isinstance(node.ops[0], (ast.Is, ast.IsNot)):
                    other = node.comparators[0]
                    plain = isinstance(other, ast.Constant) and other.value in (None, True, False)
                    left = node.left
                    kinds = isinstance(left, ast.Call) and isinstance(left.func, ast.Name) and left.func.id == "type"
                    self.assertTrue(plain or kinds, (file.name, node.lineno))

    def test_strings(self):
        for file, tree in trees():
            for node in ast.walk(tree):
                if isinstance(node, ast.Constant) and isinstance(node.value, str):
                    self.assertNotIn("%", node.value, (file.name, node.lineno))
                    self.assertFalse(node.value.endswith(("._", ".__")), file.name)

    def test_only_own_errors_are_caught(self):
        own = {node.name for file, tree in trees() if file.stem == "errors" for node in tree.body if isinstance(node, ast.ClassDef)}
        for file, tree in trees():
            for node in ast.walk(tree):
                if isinstance(node, ast.Try):
                    self.assertEqual((node.finalbody, node.orelse), ([], []))
                    for handler in node.handlers:
                        self.assertIn(handler.type.id, own, (file.name, node.lineno))

    def test_what_a_class_with_eq_and_len_bars(self):
        """Lists are not sorted in place, and any, all, min and their kin take lists."""
        for file, tree in trees():
            for node in ast.walk(tree):
                if isinstance(node, ast.Call) and isinstance(node.func, ast.Attribute):
                    self.assertNotEqual(node.func.attr, "sort", (file.name, node.lineno))

    def test_double_underscore_methods(self):
        for file, tree in trees():
            for node in ast.walk(tree):
                if isinstance(node, ast.ClassDef):
                    for part in node.body:
                        if isinstance(part, ast.FunctionDef) and part.name.startswith("__"):
                            self.assertIn(part.name, SPECIAL if file.stem == "session" else {"__init__"}, file.name)
                            if part.name == "__len__":
                                self.assertTrue(ast.unparse(part.body[-1]).startswith("return len("))
                            if part.name == "__exit__":
                                for row in part.body:
                                    self.assertIsInstance(row, ast.Assign)
                                    self.assertIsInstance(row.value, ast.Attribute)


if __name__ == "__main__":
    unittest.main()
