"""The package keeps to the subset of Python that it is written in.

What is allowed here is less than the rules allow: just what the package uses. Who
needs more of what they allow adds it here.
"""

import ast
import builtins
import pathlib
import unittest

FOLDER = pathlib.Path(__file__).resolve().parent.parent / "keyroads"
LIBRARY = {"heapq": {"heappush", "heappop"}, "math": {"gcd", "lcm"}}
BUILTINS = {"len", "range", "enumerate", "zip", "min", "max", "sum", "abs", "sorted", "reversed", "int", "str", "bool",
            "list", "tuple", "dict", "set", "isinstance", "any", "all", "divmod", "ValueError"}
METHODS = {"append", "count", "extend", "get", "index", "insert", "items", "join", "keys", "partition", "pop",
           "setdefault", "split", "startswith", "update", "values"}
# The methods of values of Python's own whose names methods of the package have, too, and change nothing.
SHARED = {"copy"}
NODES = {"Module", "Expr", "ImportFrom", "alias", "FunctionDef", "ClassDef", "arguments", "arg", "Return", "Assign",
         "AugAssign", "If", "While", "For", "Raise", "Continue", "Break", "Try", "ExceptHandler", "Name", "Attribute", "Subscript", "Slice",
         "Constant", "JoinedStr", "FormattedValue", "List", "Tuple", "Dict", "ListComp", "DictComp", "SetComp", "comprehension", "Call", "keyword",
         "BoolOp", "BinOp", "UnaryOp", "Compare", "IfExp", "Load", "Store", "And", "Or", "Not", "USub", "Add", "Sub",
         "Mult", "FloorDiv", "Mod", "LShift", "RShift", "BitAnd", "Eq", "NotEq", "Lt", "LtE", "Gt", "GtE", "Is",
         "IsNot", "In", "NotIn"}
HELPERS = {"kinds", "checks", "roads", "lengths", "circles", "cuts", "ends", "orders", "hands", "ratios", "letters",
           "figures", "single"}
# Iterated on the spot, by what stands here, by a loop or by a comprehension.
VIEWS = {"zip", "enumerate", "reversed", "range", "items", "keys", "values"}
TAKERS = {"list", "tuple", "dict", "sorted", "sum", "any", "all", "enumerate", "zip", "min", "max", "reversed"}
BARRED = {"register", "mro", "elements", "open", "input", "law", "version_info", "with_traceback", "add_note", "gc",
          "attrgetter", "breakpoint", "builtins", "compile", "copyright", "credits", "delattr", "dir", "eval", "exec",
          "exit", "globals", "help", "id", "importlib", "license", "locals", "methodcaller", "os", "quit", "super",
          "type", "vars", "sys", "iter", "next", "map", "typing", "enum", "namedtuple", "dataclass"}


def sources():
    return [(path, path.read_bytes().decode("ascii")) for path in sorted(FOLDER.glob("**/*.py"))]


def trees():
    return [(path.stem, ast.parse(text)) for path, text in sources()]


def name_of_call(node):
    """The name that a call calls, of a function or of a method."""
    return node.func.id if isinstance(node.func, ast.Name) else node.func.attr


def bound_at_top(tree):
    """The names that a file binds, and the imported ones with their modules."""
    defined, imported = [], {}
    for node in tree.body:
        if isinstance(node, (ast.FunctionDef, ast.ClassDef)):
            defined.append(node.name)
        if isinstance(node, ast.Assign):
            defined.append(node.targets[0].id)
        if isinstance(node, ast.ImportFrom):
            imported.update({item.name: node.module for item in node.names})
    return defined, imported


def own_members():
    """The attributes that classes of the package give their objects, and their methods."""
    attributes, methods = {"value"}, set()
    for _, tree in trees():
        for made in [node for node in ast.walk(tree) if isinstance(node, ast.ClassDef)]:
            methods |= {node.name for node in made.body if isinstance(node, ast.FunctionDef)} - {"__init__", "__eq__"}
            attributes |= {node.attr for node in ast.walk(made) if isinstance(node, ast.Attribute)
                           and isinstance(node.ctx, ast.Store)}
    return attributes, methods


def local_names(tree):
    """All parameters and all names that are assigned in functions."""
    found = []
    for function in [node for node in ast.walk(tree) if isinstance(node, ast.FunctionDef)]:
        for node in ast.walk(function):
            if isinstance(node, ast.arg):
                found.append(node.arg)
            if isinstance(node, ast.Name) and isinstance(node.ctx, ast.Store):
                found.append(node.id)
    return found


class Files(unittest.TestCase):
    def test_the_folder_holds_nothing_else(self):
        for path in FOLDER.iterdir():
            if path.name != "__pycache__":
                self.assertEqual(path.suffix, ".py")
                self.assertEqual(path.name, path.name.lower())
                self.assertFalse(path.stem in BARRED or path.stem in dir(builtins) or "test" in path.stem, path)

    def test_characters_and_sizes(self):
        for path, text in sources():
            lines = text.split("\n")
            self.assertLessEqual(len(lines) - 1, 399, path)
            self.assertLessEqual(max(len(line) for line in lines), 120, path)
            self.assertFalse([letter for letter in text if letter != "\n" and not " " <= letter <= "~"], path)
            self.assertTrue(text.endswith("\n") and not text.endswith("\n\n"), path)

    def test_functions_are_small(self):
        for name, tree in trees():
            for node in ast.walk(tree):
                if isinstance(node, ast.FunctionDef):
                    self.assertLessEqual(node.end_lineno - node.lineno + 1, 40, (name, node.name))
                    self.assertFalse(node.decorator_list or node.returns, (name, node.name))
                    plain = not (node.args.vararg or node.args.kwarg or node.args.kwonlyargs or node.args.posonlyargs)
                    self.assertTrue(plain, (name, node.name))


class Names(unittest.TestCase):
    def test_module_level(self):
        for name, tree in trees():
            for at, node in enumerate(tree.body):
                if isinstance(node, ast.Assign):
                    self.assertTrue(len(node.targets) == 1 and isinstance(node.value, ast.Constant), (name, at))
                elif isinstance(node, ast.Expr):
                    self.assertTrue(at == 0 and isinstance(node.value.value, str), (name, at))
                else:
                    self.assertIsInstance(node, (ast.ImportFrom, ast.FunctionDef, ast.ClassDef), (name, at))
            self.assertIsInstance(tree.body[0], ast.Expr, name)

    def test_imports_name_the_file_that_defines(self):
        tops = {name: bound_at_top(tree) for name, tree in trees()}
        for name, tree in trees():
            for node in ast.walk(tree):
                if isinstance(node, ast.ImportFrom):
                    self.assertIn(node, tree.body)
                    self.assertFalse([item for item in node.names if item.asname] or node.level, name)
                    for item in node.names:
                        if node.module in LIBRARY:
                            self.assertIn(item.name, LIBRARY[node.module])
                        else:
                            folder, _, module = node.module.partition(".")
                            self.assertEqual(folder, "keyroads")
                            self.assertIn(item.name, tops[module][0], name)

    def test_no_files_import_from_each_other(self):
        uses = {name: {module.partition(".")[2] for module in bound_at_top(tree)[1].values() if "." in module}
                for name, tree in trees()}
        left = dict(uses)
        while left:
            free = [name for name in left if not left[name] & set(left)]
            self.assertTrue(free, left)
            for name in free:
                del left[name]

    def test_each_name_is_bound_once_and_used(self):
        used = set()
        for name, tree in trees():
            defined, imported = bound_at_top(tree)
            self.assertEqual(len(set(defined) | set(imported)), len(defined) + len(imported), name)
            words = {node.id for node in ast.walk(tree) if isinstance(node, ast.Name)}
            self.assertFalse(set(imported) - words, name)
            used |= {(module, word) for word, module in imported.items()} | {("keyroads." + name, w) for w in words}
        for name, tree in trees():
            if name in HELPERS:
                for word in bound_at_top(tree)[0]:
                    self.assertIn(("keyroads." + name, word), used)

    def test_no_name_has_another_meaning(self):
        for name, tree in trees():
            defined, imported = bound_at_top(tree)
            local = local_names(tree)
            for word in local:
                self.assertNotIn(word, imported, name)
            for word in local + defined:
                self.assertFalse(word in dir(builtins) or word in BARRED or word.startswith("__"), (name, word))
            for node in ast.walk(tree):
                if isinstance(node, ast.Name) and isinstance(node.ctx, ast.Load):
                    self.assertNotEqual(node.id, "_", name)
                    self.assertTrue(node.id in BUILTINS or node.id in defined or node.id in imported
                                    or node.id in local, (name, node.id))


class Forms(unittest.TestCase):
    def test_only_these_forms(self):
        for name, tree in trees():
            for node in ast.walk(tree):
                self.assertIn(type(node).__name__, NODES, (name, getattr(node, "lineno", None)))
                if isinstance(node, ast.Constant):
                    self.assertIn(type(node.value), (int, str, bool, type(None)), (name, node.lineno))
                    self.assertFalse(isinstance(node.value, str) and "%" in node.value, (name, node.lineno))
                if isinstance(node, ast.Compare):
                    for sign, right in zip(node.ops, node.comparators):
                        if isinstance(sign, (ast.Is, ast.IsNot)):
                            self.assertTrue(isinstance(right, ast.Constant) and right.value is None, name)
                if isinstance(node, ast.Raise):
                    self.assertTrue(isinstance(node.exc, ast.Call) and node.exc.func.id[0].isupper(), name)
                    self.assertFalse(node.cause or node.exc.keywords)

    def test_errors_are_caught_around_one_call_alone(self):
        for name, tree in trees():
            for node in ast.walk(tree):
                if isinstance(node, ast.Try):
                    self.assertTrue(len(node.body) == 1 and isinstance(node.body[0], ast.Return), name)
                    self.assertIn(node.body[0].value.func.id, bound_at_top(tree)[0])
                    self.assertFalse(node.orelse or node.finalbody or len(node.handlers) > 1, name)
                    self.assertTrue(node.handlers[0].type.id == "RoadError" and node.handlers[0].name is None, name)

    def test_braces_in_strings_are_plain(self):
        for name, tree in trees():
            for node in ast.walk(tree):
                if isinstance(node, ast.JoinedStr):
                    self.assertEqual(node.lineno, node.end_lineno, name)
                if isinstance(node, ast.FormattedValue):
                    self.assertTrue(node.conversion == -1 and node.format_spec is None, name)
                    self.assertFalse([inner for inner in ast.walk(node.value) if isinstance(inner, ast.Constant)
                                      and isinstance(inner.value, str) or isinstance(inner, ast.JoinedStr)], name)
                if isinstance(node, ast.Call) and isinstance(node.func, ast.Attribute) and node.func.attr == "join":
                    self.assertIsInstance(node.func.value, ast.Constant, name)

    def test_equality_changes_nothing(self):
        for name, tree in trees():
            for made in [node for node in ast.walk(tree) if isinstance(node, ast.FunctionDef) and node.name == "__eq__"]:
                for node in ast.walk(made):
                    self.assertNotIsInstance(node, (ast.Assign, ast.AugAssign, ast.For, ast.While), name)
                    if isinstance(node, ast.Call):
                        self.assertEqual(name_of_call(node), "isinstance", name)

    def test_members_have_names_of_their_own(self):
        attributes, methods = own_members()
        self.assertFalse(attributes & methods)
        for kind in (str, int, list, dict, set, bytes, tuple, range, slice):
            self.assertFalse((attributes | methods) - SHARED & set(dir(kind)), kind)
        for _, tree in trees():
            for made in [node for node in ast.walk(tree) if isinstance(node, ast.ClassDef)]:
                words = [node.name for node in made.body if isinstance(node, ast.FunctionDef)]
                self.assertEqual(len(words), len(set(words)))
                for node in ast.walk(made):
                    if isinstance(node, ast.Attribute) and isinstance(node.ctx, ast.Store):
                        self.assertTrue(node.value.id == "self" or node.value.id in local_names(made))

    def test_methods_and_builtins(self):
        attributes, methods = own_members()
        for name, tree in trees():
            calls = [node for node in ast.walk(tree) if isinstance(node, ast.Call)]
            called = [node.func for node in calls]
            for node in ast.walk(tree):
                if isinstance(node, ast.Attribute) and node in called:
                    self.assertIn(node.attr, METHODS | methods, (name, node.lineno))
                elif isinstance(node, ast.Attribute):
                    self.assertIn(node.attr, attributes, (name, node.lineno))
                if isinstance(node, ast.Name) and node.id in BUILTINS - {"ValueError", "int", "str", "list", "tuple",
                                                                        "bool", "dict"}:
                    self.assertIn(node, called, (name, node.lineno))
            for node in calls:
                if node.keywords:
                    words = [(name_of_call(node), item.arg) for item in node.keywords]
                    self.assertFalse(set(words) - {("sorted", "reverse"), ("min", "default"), ("max", "default")}, name)

    def test_views_and_sets_are_iterated_on_the_spot(self):
        for name, tree in trees():
            views, allowed = [], []
            for node in ast.walk(tree):
                if isinstance(node, (ast.For, ast.comprehension)):
                    allowed.append(node.iter)
                if isinstance(node, ast.Call) and name_of_call(node) in TAKERS:
                    allowed.extend(node.args[:1])
                if isinstance(node, ast.Call) and name_of_call(node) in VIEWS:
                    views.append(node)
                if isinstance(node, ast.SetComp) or isinstance(node, ast.Call) and name_of_call(node) == "set":
                    self.assertTrue([call for call in ast.walk(tree) if isinstance(call, ast.Call)
                                     and name_of_call(call) in ("sorted", "len") and node in call.args], name)
            for node in views:
                self.assertIn(node, allowed, (name, node.lineno))

    def test_lists_are_not_changed_where_they_are_iterated(self):
        for name, tree in trees():
            for loop in [node for node in ast.walk(tree) if isinstance(node, ast.For)]:
                over = {ast.dump(node) for node in ast.walk(loop.iter) if isinstance(node, ast.Name)}
                for node in [inner for row in loop.body for inner in ast.walk(row)]:
                    if isinstance(node, ast.Call) and isinstance(node.func, ast.Attribute):
                        if node.func.attr in ("append", "extend", "insert", "pop", "setdefault", "update"):
                            self.assertNotIn(ast.dump(node.func.value), over, (name, node.lineno))
                    if isinstance(node, ast.Subscript) and isinstance(node.ctx, ast.Store):
                        held = ast.dump(node.value).replace("Store", "Load")
                        self.assertNotIn(held, over, (name, node.lineno))


if __name__ == "__main__":
    unittest.main()
