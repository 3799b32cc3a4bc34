"""Those rules of LANGUAGE.md that are easy to see from outside, over every file of the package."""

import ast
import builtins
import pathlib
import unittest

FOLDER = pathlib.Path(__file__).resolve().parent.parent / "notbehind"
FILES = sorted(path for path in FOLDER.rglob("*") if path.is_file() and "__pycache__" not in path.parts)


def module_name(path):
    parts = [FOLDER.name, *path.relative_to(FOLDER).with_suffix("").parts]
    return ".".join(part for part in parts if part != "__init__")


TREES = {module_name(path): ast.parse(path.read_text(encoding="utf-8")) for path in FILES if path.suffix == ".py"}

LIBRARY = {
    "heapq": {"heappush", "heappop", "heapify", "heapreplace", "heappushpop"},
    "math": {"gcd", "lcm", "isqrt", "comb", "perm", "factorial"},
    "itertools": {
        "product", "combinations", "permutations", "chain", "accumulate", "pairwise", "islice", "zip_longest",
    },
    "collections": {"defaultdict"},
    "__future__": {"annotations"},
}
BUILTINS = set("""
    len range enumerate zip min max sum abs sorted reversed int str bool bytes list tuple dict set frozenset isinstance
    ord repr any all divmod pow getattr hasattr setattr iter next map super property staticmethod classmethod object
    float NotImplemented Exception ValueError TypeError KeyError IndexError LookupError ZeroDivisionError
    ArithmeticError OverflowError RuntimeError NotImplementedError AttributeError StopIteration
""".split())
METHODS = set("""
    append clear copy count endswith extend find get index insert isalnum isalpha isdigit islower isspace isupper items
    join keys ljust lower lstrip partition pop remove replace reverse rfind rjust rpartition rsplit rstrip setdefault
    split splitlines startswith strip update upper values zfill bit_length title capitalize swapcase casefold center
    expandtabs removeprefix removesuffix rindex isascii isdecimal isnumeric istitle isidentifier isprintable translate
    maketrans encode decode hex add discard sort format from_iterable __init__
""".split())
BARRED_NODES = (
    ast.Import, ast.Global, ast.AsyncFunctionDef, ast.AsyncFor, ast.AsyncWith, ast.Await, ast.Div, ast.MatMult,
)
BARRED_NAMES = set("register mro elements open input law version_info with_traceback add_note".split())


def nodes_of(kind):
    """Each node of a kind in the package, with the place to show where it breaks a rule."""
    return [
        (f"{module}:{getattr(node, 'lineno', 0)}", node)
        for module, tree in TREES.items() for node in ast.walk(tree) if isinstance(node, kind)
    ]


def imports_of(tree):
    """Pairs of an imported name and the module that it comes from."""
    return [(name.name, node.module) for node in tree.body if isinstance(node, ast.ImportFrom) for name in node.names]


def defined_in(tree):
    """The names that a file binds at module level by itself."""
    found = [node.name for node in tree.body if isinstance(node, (ast.FunctionDef, ast.ClassDef))]
    for node in tree.body:
        if isinstance(node, (ast.Assign, ast.AnnAssign)):
            targets = node.targets if isinstance(node, ast.Assign) else [node.target]
            found.extend(target.id for target in targets)
    return found


def bound_in(function):
    """The parameters and local variables of a function."""
    found = {node.arg for node in ast.walk(function) if isinstance(node, ast.arg)}
    return found | {node.id for node in ast.walk(function) if isinstance(node, ast.Name) and isinstance(node.ctx, ast.Store)}


class Files(unittest.TestCase):
    def test_names(self):
        self.assertIn(FOLDER / "__init__.py", FILES)
        for path in FILES:
            self.assertRegex(path.name, r"^[a-z0-9_]+\.py$")
            self.assertNotIn(path.stem, dir(builtins))

    def test_characters_and_sizes(self):
        for path in FILES:
            with self.subTest(file=path.name):
                text = path.read_text(encoding="utf-8")
                lines = text.splitlines()
                self.assertTrue(all(letter == "\n" or " " <= letter <= "~" for letter in text))
                self.assertLessEqual(len(lines), 399)
                self.assertLessEqual(max([0, *[len(line) for line in lines]]), 120)

    def test_functions_have_at_most_40_lines(self):
        for place, node in nodes_of(ast.FunctionDef):
            self.assertLessEqual(node.end_lineno - node.lineno + 1, 40, place)


class Imports(unittest.TestCase):
    def test_only_the_package_and_the_library_from_the_defining_file(self):
        for module, tree in TREES.items():
            for name, origin in imports_of(tree):
                with self.subTest(module=module, name=name):
                    if origin in LIBRARY:
                        self.assertIn(name, LIBRARY[origin])
                    else:
                        self.assertIn(origin, TREES)
                        self.assertIn(name, defined_in(TREES[origin]))

    def test_no_two_files_import_from_each_other(self):
        needs = {module: {origin for _, origin in imports_of(tree)} for module, tree in TREES.items()}
        while needs:
            free = [module for module, others in needs.items() if not others & set(needs)]
            self.assertTrue(free, f"a circle among {sorted(needs)}")
            needs = {module: others for module, others in needs.items() if module not in free}


class Words(unittest.TestCase):
    def test_barred_statements_and_signs(self):
        self.assertEqual([place for place, _ in nodes_of(BARRED_NODES)], [])

    def test_constants(self):
        for place, node in nodes_of(ast.Constant):
            self.assertIn(type(node.value), (int, str, bool, bytes, type(None), type(...)), place)
            if isinstance(node.value, str):
                self.assertNotIn("%", node.value, place)

    def test_module_level(self):
        allowed = (ast.Expr, ast.ImportFrom, ast.FunctionDef, ast.ClassDef, ast.Assign, ast.AnnAssign, ast.If)
        for module, tree in TREES.items():
            for node in tree.body:
                self.assertIsInstance(node, allowed, f"{module}:{node.lineno}")
            names = defined_in(tree) + [name for name, _ in imports_of(tree)]
            self.assertEqual(len(names), len(set(names)), module)

    def test_bound_names_are_no_builtins_imports_or_classes(self):
        for module, tree in TREES.items():
            barred = set(dir(builtins)) | BARRED_NAMES
            self.assertEqual(set(defined_in(tree)) & barred, set(), module)
            barred |= {name for name, _ in imports_of(tree)}
            barred |= {node.name for node in tree.body if isinstance(node, ast.ClassDef)}
            for function in [node for node in ast.walk(tree) if isinstance(node, ast.FunctionDef)]:
                with self.subTest(module=module, function=function.name):
                    self.assertEqual(bound_in(function) & barred, set())

    def test_only_listed_builtins_are_used(self):
        for place, node in nodes_of(ast.Name):
            if node.id in dir(builtins):
                self.assertIn(node.id, BUILTINS, place)

    def test_only_listed_methods_are_called(self):
        own = {node.name for _, node in nodes_of(ast.FunctionDef)}
        own |= {node.attr for _, node in nodes_of(ast.Attribute) if isinstance(node.ctx, ast.Store)}
        for place, node in nodes_of(ast.Call):
            if isinstance(node.func, ast.Attribute):
                self.assertIn(node.func.attr, METHODS | own, place)


if __name__ == "__main__":
    unittest.main()
