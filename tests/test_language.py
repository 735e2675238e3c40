"""The rules of the language that a plain look at the files can tell: L1, L2, L7, L8, L10, L12, L14 to L16, L20, L25."""

import ast
import builtins
import unittest
from pathlib import Path

PACKAGE = Path(__file__).resolve().parent.parent / "sidebooks"
FILES = sorted(PACKAGE.rglob("*.py"))
LIBRARY = {"math": {"gcd", "lcm", "isqrt", "comb", "perm", "factorial"},
           "itertools": {"product", "combinations", "permutations"}}
ALLOWED = set("""len range enumerate zip min max sum abs sorted reversed int str bool list tuple dict set isinstance
    ord repr any all divmod pow iter next map ValueError TypeError KeyError IndexError LookupError ZeroDivisionError
    """.split())
METHODS = set("""append clear copy count endswith extend find get index insert isalnum isalpha isdigit islower isspace
    isupper items join keys ljust lower lstrip partition pop remove replace reverse rfind rjust rpartition rsplit rstrip
    setdefault split splitlines startswith strip update upper values zfill bit_length add discard isascii""".split())
# Not `_`, under which Python keeps what a console showed last.
BUILTINS = set(dir(builtins)) - {"_"}


def bound_names(tree):
    """What is bound in a file: at module level, and within functions."""
    outer, inner = [], []
    for node in tree.body:
        if isinstance(node, (ast.FunctionDef, ast.ClassDef)):
            outer.append(node.name)
        elif isinstance(node, ast.ImportFrom):
            outer.extend(alias.asname or alias.name for alias in node.names)
        elif isinstance(node, ast.Assign):
            outer.extend(target.id for target in node.targets)
    for node in ast.walk(tree):
        if isinstance(node, ast.arg):
            inner.append(node.arg)
        elif isinstance(node, ast.Name) and isinstance(node.ctx, ast.Store):
            inner.append(node.id)
    return outer, inner


TREES = [(path, ast.parse(path.read_text())) for path in FILES]


class Language(unittest.TestCase):
    def test_the_folder_holds_plain_files_alone(self):
        others = [path.name for path in PACKAGE.iterdir() if path.suffix != ".py" and path.name != "__pycache__"]
        self.assertEqual(others, [])
        self.assertIn("__init__.py", [path.name for path in FILES])

    def test_sizes_and_signs(self):
        for path, tree in TREES:
            text = path.read_text()
            self.assertLessEqual(len(text.splitlines()), 399)
            self.assertLessEqual(max(len(line) for line in text.splitlines()), 120)
            self.assertEqual([sign for sign in text if sign != "\n" and not " " <= sign <= "~"], [])
            for node in ast.walk(tree):
                if isinstance(node, ast.FunctionDef):
                    self.assertLessEqual(node.end_lineno - node.lineno + 1, 40, node.name)

    def test_imports(self):
        for path, tree in TREES:
            for node in ast.walk(tree):
                self.assertNotIsInstance(node, ast.Import)
                if isinstance(node, ast.ImportFrom):
                    self.assertIn(node, tree.body)
                    self.assertEqual(node.level, 0)
                    names = {alias.name for alias in node.names}
                    if node.module in LIBRARY:
                        self.assertLessEqual(names, LIBRARY[node.module])
                    else:
                        home = PACKAGE / (node.module.removeprefix("sidebooks.") + ".py")
                        self.assertLessEqual(names, set(bound_names(ast.parse(home.read_text()))[0]))

    def test_no_two_files_import_from_each_other(self):
        imports = {}
        for path, tree in TREES:
            imports[path.stem] = {node.module.removeprefix("sidebooks.") for node in tree.body
                                  if isinstance(node, ast.ImportFrom) and node.module.startswith("sidebooks.")}
        while imports:
            loose = [name for name, needed in imports.items() if not needed & set(imports)]
            self.assertTrue(loose, imports)
            for name in loose:
                del imports[name]

    def test_a_generator_expression_stands_directly_in_a_call(self):
        for path, tree in TREES:
            calls = [node for node in ast.walk(tree) if isinstance(node, ast.Call) and isinstance(node.func, ast.Name)]
            placed = {id(told) for call in calls for told in call.args
                      if call.func.id in "list tuple dict sorted sum min max any all".split()}
            every = {id(node) for node in ast.walk(tree) if isinstance(node, ast.GeneratorExp)}
            self.assertLessEqual(every, placed)

    def test_names(self):
        for path, tree in TREES:
            outer, inner = bound_names(tree)
            self.assertEqual(len(outer), len(set(outer)))
            self.assertEqual([name for name in outer + inner if name in BUILTINS], [])
            taken = [node.name for node in tree.body if isinstance(node, ast.ClassDef)]
            taken += [alias.name for node in tree.body if isinstance(node, ast.ImportFrom) for alias in node.names]
            self.assertEqual([name for name in inner if name in taken], [])
            self.assertNotRegex(path.read_text(), r"\b_(wall|WallAttr|pe_|dcw_|enum_|cm_|lay_|law_|stub_|sre|record)")

    def test_methods(self):
        own = {node.name for _, tree in TREES for outer in tree.body if isinstance(outer, ast.ClassDef)
               for node in outer.body if isinstance(node, ast.FunctionDef)}
        for path, tree in TREES:
            called = {node.func.attr for node in ast.walk(tree)
                      if isinstance(node, ast.Call) and isinstance(node.func, ast.Attribute)}
            self.assertLessEqual(called, METHODS | own, path.name)

    def test_signs(self):
        for path, tree in TREES:
            for node in ast.walk(tree):
                self.assertNotIsInstance(node, (ast.Div, ast.AsyncFunctionDef), path.name)
                if isinstance(node, ast.Compare) and any(isinstance(sign, (ast.Is, ast.IsNot)) for sign in node.ops):
                    self.assertEqual([told.value for told in node.comparators], [None], path.name)
                if isinstance(node, ast.Constant):
                    self.assertNotIsInstance(node.value, float)

    def test_no_state_at_module_level(self):
        for path, tree in TREES:
            tables = {node.targets[0].id for node in tree.body if isinstance(node, ast.Assign)}
            for node in ast.walk(tree):
                if isinstance(node, ast.Subscript) and not isinstance(node.ctx, ast.Load):
                    self.assertNotIn(getattr(node.value, "id", None), tables, path.name)
                if isinstance(node, ast.Attribute) and isinstance(node.value, ast.Name):
                    if node.value.id in tables:
                        self.assertEqual(node.attr, "get", path.name)

    def test_builtins(self):
        for path, tree in TREES:
            used = {node.id for node in ast.walk(tree) if isinstance(node, ast.Name) and node.id in BUILTINS}
            self.assertLessEqual(used, ALLOWED)


if __name__ == "__main__":
    unittest.main()
