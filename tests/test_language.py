"""Those rules of the language that a look at the files can tell."""

import ast
import builtins
import os
import re
import unittest

PACKAGE = os.path.join(os.path.dirname(os.path.dirname(os.path.abspath(__file__))), "lateslips")
CALLED = set(
    "len range enumerate zip min max sum abs sorted reversed int str bool list tuple dict set isinstance ord repr any "
    "all divmod ValueError".split()
)
METHODS = set(
    "append clear copy count endswith extend find get index insert isalnum isalpha isdigit islower isspace isupper "
    "items join keys ljust lower lstrip partition pop remove replace reverse rfind rjust rpartition rsplit rstrip "
    "setdefault split splitlines startswith strip update upper values zfill bit_length add discard".split()
)
BARRED = set(
    "register mro elements open input law version_info with_traceback add_note type typing typing_extensions enum "
    "Enum IntEnum StrEnum Flag IntFlag Generic Protocol ABC ABCMeta namedtuple NamedTuple TypedDict".split()
)
CHANGING = set("append clear extend insert pop remove reverse setdefault update add discard".split())
METHODS_OF_CLASSES = ("__init__", "__eq__", "__len__", "__call__")
NODES = (
    ast.Global, ast.AsyncFunctionDef, ast.Await, ast.With, ast.GeneratorExp, ast.AnnAssign, ast.NamedExpr, ast.Div,
    ast.Import, ast.Lambda, ast.Delete, ast.Yield, ast.YieldFrom,
)


def package_files():
    return sorted(name for name in os.listdir(PACKAGE) if name != "__pycache__")


def text_of(name):
    with open(os.path.join(PACKAGE, name), encoding="utf-8") as file:
        return file.read()


class LanguageTest(unittest.TestCase):
    def each(self):
        for name in package_files():
            text = text_of(name)
            yield name, text, ast.parse(text)

    def test_files(self):
        for name in package_files():
            self.assertTrue(re.fullmatch(r"[a-z_][a-z0-9_]*\.py", name), name)

    def test_size_and_characters(self):
        for name, text, tree in self.each():
            self.assertTrue(re.fullmatch(r"[ -~\n]*", text), name)
            self.assertLessEqual(text.count("\n"), 399, name)
            self.assertLessEqual(max(map(len, text.split("\n"))), 120, name)
            for node in ast.walk(tree):
                if isinstance(node, ast.FunctionDef):
                    self.assertLessEqual(node.end_lineno - node.lineno + 1, 40, node.name)
                    self.assertEqual(node.decorator_list, [], node.name)

    def test_what_is_not_used(self):
        for name, _, tree in self.each():
            for node in ast.walk(tree):
                self.assertNotIsInstance(node, NODES, (name, getattr(node, "lineno", None)))
                if isinstance(node, ast.Constant):
                    self.assertIsInstance(node.value, (int, str, type(None)), name)
                if isinstance(node, ast.Constant) and isinstance(node.value, str):
                    self.assertNotIn("%", node.value, name)

    def test_names(self):
        for name, _, tree in self.each():
            for node in ast.walk(tree):
                for word in bound_names(node):
                    self.assertFalse(hasattr(builtins, word), (name, word))
                    self.assertNotIn(word, BARRED, name)
                    self.assertTrue(re.fullmatch(r"_|_?[A-Za-z][A-Za-z0-9_]*", word), (name, word))

    def test_calls(self):
        own = set()
        for _, _, tree in self.each():
            classes = [node for node in tree.body if isinstance(node, ast.ClassDef)]
            own.update(node.name for each in classes for node in each.body if isinstance(node, ast.FunctionDef))
        for name, _, tree in self.each():
            for node in ast.walk(tree):
                if isinstance(node, ast.Name) and hasattr(builtins, node.id):
                    self.assertIn(node.id, CALLED, name)
                if isinstance(node, ast.Call) and isinstance(node.func, ast.Attribute):
                    self.assertIn(node.func.attr, METHODS | own, (name, node.lineno))

    def test_tries(self):
        errors = defined_names("errors.py")
        for name, _, tree in self.each():
            for node in ast.walk(tree):
                if isinstance(node, ast.Try):
                    self.assertTrue(all(handler.type.id in errors for handler in node.handlers), name)
                    self.assertTrue(all(is_plain_assignment(row) for row in node.finalbody), name)

    def test_loops_leave_alone_what_they_go_over(self):
        for name, _, tree in self.each():
            for node in ast.walk(tree):
                if isinstance(node, ast.For):
                    over = {inner.id for inner in ast.walk(node.iter) if isinstance(inner, ast.Name)}
                    for inner in ast.walk(ast.Module(node.body, [])):
                        self.assertNotIn(changed_name(inner), over, (name, node.lineno))

    def test_imports_name_the_very_file(self):
        links = {}
        for name, _, tree in self.each():
            links[name] = []
            for node in tree.body:
                if isinstance(node, ast.ImportFrom):
                    file = imported_file(node.module)
                    links[name].append(file)
                    defined = defined_names(file)
                    for alias in node.names:
                        self.assertIsNone(alias.asname)
                        self.assertIn(alias.name, defined, (name, file))
        self.no_rounds(links)

    def test_imports_keep_their_names(self):
        for name, _, tree in self.each():
            imported = [alias.name for node in tree.body if isinstance(node, ast.ImportFrom) for alias in node.names]
            for node in ast.walk(tree):
                for word in bound_names(node):
                    self.assertNotIn(word, imported, name)

    def no_rounds(self, links):
        done = set()
        while links:
            free = [name for name, files in links.items() if set(files) <= done]
            self.assertTrue(free, links)
            done.update(free)
            links = {name: files for name, files in links.items() if name not in done}

    def test_imports_are_used(self):
        for name, text, tree in self.each():
            for node in tree.body:
                if isinstance(node, ast.ImportFrom):
                    for alias in node.names:
                        self.assertGreater(len(re.findall(rf"\b{alias.name}\b", text)), 1, (name, alias.name))


def is_plain_assignment(node):
    """Whether only names and attributes are assigned to such, as is allowed at the end of a `try`."""
    plain = (ast.Assign, ast.Name, ast.Attribute, ast.Tuple, ast.Load, ast.Store)
    return isinstance(node, ast.Assign) and all(isinstance(inner, plain) for inner in ast.walk(node))


def changed_name(node):
    """The name of what a call or an assignment of an item changes, None for what does neither."""
    if isinstance(node, ast.Call) and isinstance(node.func, ast.Attribute) and node.func.attr in CHANGING:
        node = node.func
    elif not (isinstance(node, ast.Subscript) and not isinstance(node.ctx, ast.Load)):
        return None
    while isinstance(node, (ast.Attribute, ast.Subscript)):
        node = node.value
    return node.id if isinstance(node, ast.Name) else None


def imported_file(module):
    package, _, rest = module.partition(".")
    assert package == "lateslips" and rest
    return rest + ".py"


def defined_names(file):
    """What a file itself defines at module level."""
    found = []
    for node in ast.parse(text_of(file)).body:
        if isinstance(node, (ast.FunctionDef, ast.ClassDef)):
            found.append(node.name)
        if isinstance(node, ast.Assign):
            found.extend(target.id for target in node.targets)
    return found


def bound_names(node):
    if isinstance(node, (ast.FunctionDef, ast.ClassDef)):
        return [] if node.name in METHODS_OF_CLASSES else [node.name]
    if isinstance(node, ast.arg):
        return [node.arg]
    if isinstance(node, ast.Name) and isinstance(node.ctx, ast.Store):
        return [node.id]
    return []


if __name__ == "__main__":
    unittest.main()
