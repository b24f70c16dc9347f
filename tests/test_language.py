"""Looks at the files of the package: a part of the rules of the language that they are written in."""

import ast
import builtins
import os
import unittest
import warnings

import lastingrun

FOLDER = os.path.dirname(os.path.abspath(lastingrun.__file__))

INTERFACE = {
    "errors": (
        "BadText", "Unsound", "Gap", "BadLine", "NoLoose", "NoCut", "NoHistory", "NoObject", "NoPlace",
        "NoBlock", "NoOutput", "Gone", "Refused", "Busy", "Idle", "Stopped", "NoRoot", "Full",
    ),
    "limits": (),
    "text": ("read", "write"),
    "check": ("faults",),
    "live": ("live",),
    "plain": ("Run",),
    "memory": ("Memory",),
    "heap": ("Heap",),
    "collect": ("reachable", "Collector"),
    "machine": ("Machine",),
    "disk": ("Disk", "disk_of"),
    "log": ("Log",),
    "store": ("make_store", "Store"),
    "host": ("start", "recover", "Host"),
    "audit": ("audit", "replayed", "explains"),
    "sheet": ("answers",),
}

# The methods that stand in the body of a class of the interface.
CLASS_METHODS = {
    ("plain", "Run"): (
        "__init__", "give", "given", "turn", "turns", "outputs", "sent", "forget", "able", "program", "changes",
        "picture", "change",
    ),
    ("memory", "Memory"): (
        "__init__", "get", "put", "many", "page", "changed", "freeze", "frozen", "frozen_many", "settle", "thaw",
    ),
    ("heap", "Heap"): ("__init__", "make", "kind", "atoms", "get", "put", "free", "refs"),
    ("collect", "Collector"): ("__init__", "begin", "busy", "step"),
    ("machine", "Machine"): (
        "__init__", "give", "given", "turn", "turns", "outputs", "sent", "forget", "able", "program", "changes",
        "picture", "change", "memory", "collect", "records",
    ),
    ("disk", "Disk"): (
        "__init__", "read", "write", "size", "writes", "barrier", "loose", "fail_after", "crash", "image",
    ),
    ("log", "Log"): (
        "__init__", "append", "flush", "records", "many", "safe", "epoch", "next_block", "cut",
    ),
    ("store", "Store"): (
        "__init__", "newest", "facts", "many", "page", "begin", "step", "finish", "is_open", "free",
    ),
    ("host", "Host"): (
        "__init__", "accept", "change", "run", "turns", "commit", "fixed", "confirmed", "outbox", "took", "snapshot",
        "collect", "records", "picture", "able", "text",
    ),
}

BUILTINS = set(
    "len range enumerate zip min max sum abs sorted reversed int str bool list tuple dict set isinstance ord "
    "repr any all divmod map iter next super Exception ValueError TypeError KeyError IndexError LookupError "
    "ZeroDivisionError ArithmeticError OverflowError RuntimeError NotImplementedError AttributeError".split())

METHODS = set(
    "append clear copy count endswith extend find get index insert isalnum isalpha isdigit islower isspace "
    "isupper items join keys ljust lower lstrip partition pop remove replace reverse rfind rjust rpartition "
    "rsplit rstrip setdefault split splitlines startswith strip update upper values zfill bit_length sort "
    "add discard".split())

NO_NAMES = set(
    "register mro elements open input law version_info with_traceback add_note attrgetter breakpoint builtins "
    "compile copyright credits delattr dir eval exec exit gc getattr globals hasattr help id importlib license "
    "locals methodcaller os quit setattr super type vars sys args property staticmethod classmethod".split())

NO_STATEMENTS = (
    ast.Global, ast.AsyncFunctionDef, ast.AsyncFor, ast.AsyncWith, ast.Await, ast.Import, ast.Div,
    ast.MatchClass, ast.MatchMapping, ast.MatchOr, ast.Set, ast.With,
)


def files():
    found = []
    for name in sorted(os.listdir(FOLDER)):
        if name != "__pycache__":
            with open(os.path.join(FOLDER, name), encoding="utf-8") as file:
                found.append((name, file.read()))
    return found


def trees():
    return [(name, ast.parse(text)) for name, text in files()]


def bound_names(tree):
    """The names that are bound anywhere in a tree: variables, parameters, functions and classes."""
    found = []
    for node in ast.walk(tree):
        if isinstance(node, ast.Name) and isinstance(node.ctx, ast.Store):
            found.append(node.id)
        if isinstance(node, ast.arg):
            found.append(node.arg)
        if isinstance(node, (ast.MatchAs, ast.MatchStar)) and node.name:
            found.append(node.name)
        if isinstance(node, (ast.FunctionDef, ast.ClassDef)):
            found.append(node.name)
    return found


class LanguageTest(unittest.TestCase):
    def test_files(self):
        names = [name for name, _ in files()]
        self.assertIn("__init__.py", names)
        for name in names:
            self.assertRegex(name, "^([a-z][a-z0-9_]*|__init__)[.]py$")

    def test_interface(self):
        bodies = {name[:-3]: tree.body for name, tree in trees()}
        for name, wanted in INTERFACE.items():
            here = [node.name for node in bodies[name] if isinstance(node, (ast.FunctionDef, ast.ClassDef))]
            self.assertLessEqual(set(wanted), set(here))

    def test_methods_of_the_interface(self):
        bodies = {name[:-3]: tree.body for name, tree in trees()}
        for (name, wanted), methods in CLASS_METHODS.items():
            found = [node for node in bodies[name] if isinstance(node, ast.ClassDef) and node.name == wanted]
            here = [node.name for node in found[0].body if isinstance(node, ast.FunctionDef)]
            self.assertLessEqual(set(methods), set(here))
            self.assertEqual(len(here), len(set(here)))

    def test_characters_and_sizes(self):
        for name, text in files():
            with self.subTest(name):
                self.assertTrue(all(" " <= character <= "~" or character == "\n" for character in text))
                lines = text.split("\n")
                self.assertLessEqual(len(lines), 399)
                self.assertLessEqual(max(len(line) for line in lines), 120)
                self.assertFalse([line for line in lines if line != line.rstrip()])
                self.assertTrue(text.endswith("\n"))

    def test_functions_are_short(self):
        for name, tree in trees():
            for node in ast.walk(tree):
                if isinstance(node, ast.FunctionDef):
                    self.assertLessEqual(node.end_lineno - node.lineno + 1, 40, (name, node.name))

    def test_no_warnings(self):
        with warnings.catch_warnings():
            warnings.simplefilter("error")
            for name, text in files():
                compile(text, name, "exec")

    def test_statements(self):
        for name, tree in trees():
            for node in ast.walk(tree):
                self.assertNotIsInstance(node, NO_STATEMENTS, (name, getattr(node, "lineno", None)))

    def test_module_level(self):
        for name, tree in trees():
            names = []
            functions = []
            for place, node in enumerate(tree.body):
                if isinstance(node, ast.FunctionDef):
                    functions.append(node.name)
                docstring = place == 0 and isinstance(node, ast.Expr) and isinstance(node.value, ast.Constant)
                self.assertTrue(docstring or isinstance(
                    node, (ast.ImportFrom, ast.FunctionDef, ast.ClassDef, ast.Assign)), (name, node.lineno))
                if isinstance(node, ast.Assign):
                    self.assertEqual(len(node.targets), 1)
                    self.assertIsInstance(node.targets[0], ast.Name)
                    # Only functions that stand above may be named, in a dict.
                    for part in ast.walk(node.value):
                        self.assertNotIsInstance(part, ast.Call, (name, node.lineno))
                        if isinstance(part, ast.Name):
                            self.assertIsInstance(node.value, ast.Dict, (name, node.lineno))
                            self.assertIn(part.id, functions, (name, node.lineno))
                    names.append(node.targets[0].id)
                if isinstance(node, ast.ImportFrom):
                    names.extend(alias.name for alias in node.names)
                if isinstance(node, (ast.FunctionDef, ast.ClassDef)):
                    names.append(node.name)
            self.assertEqual(len(names), len(set(names)), name)

    def test_imports(self):
        bodies = {f"lastingrun.{name[:-3]}": tree.body for name, tree in trees()}
        graph = {}
        for name, body in bodies.items():
            graph[name] = []
            for node in body:
                if isinstance(node, ast.ImportFrom):
                    self.assertEqual(node.level, 0)
                    self.assertIn(node.module, bodies)
                    graph[name].append(node.module)
                    there = set()
                    for part in bodies[node.module]:
                        if isinstance(part, (ast.FunctionDef, ast.ClassDef)):
                            there.add(part.name)
                        if isinstance(part, ast.Assign):
                            there.add(part.targets[0].id)
                    for alias in node.names:
                        self.assertIsNone(alias.asname)
                        self.assertIn(alias.name, there)
        # No ring of imports: time and again a file goes that imports none of the rest.
        while graph:
            free = [name for name, rest in graph.items() if not set(rest) & set(graph)]
            self.assertTrue(free, graph)
            for name in free:
                del graph[name]

    def test_names(self):
        everything = set(dir(builtins))
        for name, tree in trees():
            imported = {alias.name for node in tree.body if isinstance(node, ast.ImportFrom) for alias in node.names}
            for bound in bound_names(tree):
                with self.subTest(name + " " + bound):
                    self.assertNotIn(bound, everything)
                    self.assertNotIn(bound, NO_NAMES)
                    self.assertNotIn(bound, imported)
                    self.assertTrue(bound == "__init__" or not bound.startswith("__"))
            for node in ast.walk(tree):
                if isinstance(node, ast.Name) and node.id in everything:
                    self.assertIn(node.id, BUILTINS, (name, node.lineno))

    def test_methods(self):
        defined = {node.name for _, tree in trees() for node in ast.walk(tree) if isinstance(node, ast.FunctionDef)}
        for name, tree in trees():
            for node in ast.walk(tree):
                if isinstance(node, ast.Call) and isinstance(node.func, ast.Attribute):
                    self.assertIn(node.func.attr, METHODS | defined, (name, node.lineno))

    def test_handlers(self):
        """Only errors of the package are caught, by one name."""
        own = {node.name for _, tree in trees() for node in tree.body if isinstance(node, ast.ClassDef)}
        for name, tree in trees():
            for node in ast.walk(tree):
                if isinstance(node, ast.ExceptHandler):
                    self.assertIsInstance(node.type, ast.Name, (name, node.lineno))
                    self.assertIn(node.type.id, own, (name, node.lineno))
                if isinstance(node, ast.Try):
                    self.assertFalse(node.finalbody, (name, node.lineno))

    def test_identity(self):
        for name, tree in trees():
            for node in ast.walk(tree):
                if isinstance(node, ast.Compare):
                    for sign, right in zip(node.ops, node.comparators):
                        if isinstance(sign, (ast.Is, ast.IsNot)):
                            self.assertIsInstance(right, ast.Constant, (name, node.lineno))

    def test_views_are_iterated_at_once(self):
        for name, tree in trees():
            good = set()
            for node in ast.walk(tree):
                if isinstance(node, (ast.For, ast.comprehension)):
                    good.add(id(node.iter))
                if isinstance(node, ast.Call) and isinstance(node.func, ast.Name) and node.args:
                    if node.func.id in ("list", "tuple", "dict", "sorted", "sum", "any", "all", "enumerate", "zip"):
                        good.update(id(part) for part in node.args)
                    if node.func.id in ("reversed", "len") and isinstance(node.args[0], ast.Call):
                        if getattr(node.args[0].func, "id", None) == "range":
                            good.add(id(node.args[0]))
                if isinstance(node, ast.Call) and isinstance(node.func, ast.Attribute) and node.func.attr == "join":
                    good.update(id(part) for part in node.args)
            for node in ast.walk(tree):
                if isinstance(node, ast.Call):
                    word = getattr(node.func, "id", getattr(node.func, "attr", None))
                    if word in ("zip", "enumerate", "reversed", "range", "items", "keys", "values"):
                        self.assertIn(id(node), good, (name, node.lineno))

    def test_methods_and_attributes(self):
        """No name is both a method and an attribute of one class."""
        for name, tree in trees():
            for node in ast.walk(tree):
                if isinstance(node, ast.ClassDef):
                    methods = {part.name for part in node.body if isinstance(part, ast.FunctionDef)}
                    stored = {
                        part.attr for part in ast.walk(node)
                        if isinstance(part, ast.Attribute) and isinstance(part.ctx, ast.Store)}
                    self.assertFalse(methods & stored, (name, node.name))

    def test_captured_names(self):
        """A captured name is read only in its own case and is bound by nothing else in its function."""
        for name, tree in trees():
            for function in ast.walk(tree):
                if isinstance(function, ast.FunctionDef):
                    self.look_at_captures(name, function)

    def look_at_captures(self, name, function):
        cases = [node for node in ast.walk(function) if isinstance(node, ast.match_case)]
        captured = {
            part.name for case in cases for part in ast.walk(case.pattern)
            if isinstance(part, (ast.MatchAs, ast.MatchStar)) and part.name}
        inside = set()
        for case in cases:
            own = {part.name for part in ast.walk(case.pattern) if isinstance(part, ast.MatchAs)}
            for statement in case.body:
                inside |= {id(part) for part in ast.walk(statement) if isinstance(part, ast.Name) and part.id in own}
        parameters = {arg.arg for arg in function.args.args}
        self.assertFalse(captured & parameters, (name, function.name))
        for node in ast.walk(function):
            if isinstance(node, ast.Name) and node.id in captured:
                self.assertIsInstance(node.ctx, ast.Load, (name, node.lineno))
                self.assertIn(id(node), inside, (name, node.lineno))

    def test_strings(self):
        for name, tree in trees():
            for node in ast.walk(tree):
                if isinstance(node, ast.Constant) and isinstance(node.value, str):
                    self.assertNotIn("%", node.value, (name, node.lineno))
                    self.assertFalse(node.value.endswith("._"), (name, node.lineno))


if __name__ == "__main__":
    unittest.main()
