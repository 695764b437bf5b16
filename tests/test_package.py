"""The rules for the package's files that can be seen in the files themselves."""

import ast
import builtins
import re
import unittest
from pathlib import Path

FOLDER = Path(__file__).resolve().parent.parent / "mixpace"
FILES = sorted(FOLDER.rglob("*.py"))
BUILTINS = set(
    "len range enumerate zip min max sum abs sorted reversed int str bool list tuple dict set isinstance ord repr any "
    "all divmod super property ValueError KeyError ZeroDivisionError".split()
)
UNUSED_WORDS = (
    "type typing typing_extensions enum Enum IntEnum StrEnum Flag IntFlag Generic Protocol ABC ABCMeta namedtuple "
    "NamedTuple TypedDict TYPE_CHECKING abstractmethod"
).split()
DEFINED = {
    "dishes": ["Dish"],
    "reading": ["read_dish", "write_dish"],
    "kitchens": ["Kitchen", "ask_closed"],
    "standings": ["empty_standing", "after_start", "after_beat", "moves", "all_standings"],
    "rows": ["first_lack", "row_totals", "stretch_totals", "ring_lack", "ring_mean"],
    "mixes": ["lowest"],
    "polygons": ["Region"],
    "services": ["Service", "serve_closed"],
    "papers": ["paper", "tight_row"],
    "regions": ["best_ring", "region_of", "corner_rings"],
    "wishes": ["shares", "plan", "parting_mix", "least_number", "region_while_closed"],
}
# What LANGUAGE.md allows to import from elsewhere.
LIBRARY = {
    "__future__": ["annotations"],
    "heapq": ["heappush", "heappop", "heapify", "heapreplace", "heappushpop"],
    "math": ["gcd", "lcm", "isqrt", "comb", "perm", "factorial"],
    "itertools": "product combinations permutations chain accumulate pairwise islice zip_longest".split(),
    "collections": ["defaultdict"],
}


def names_bound(tree):
    bound = set()
    for node in ast.walk(tree):
        if isinstance(node, (ast.FunctionDef, ast.ClassDef)):
            bound.add(node.name)
        elif isinstance(node, ast.arg):
            bound.add(node.arg)
        elif isinstance(node, ast.Name) and isinstance(node.ctx, ast.Store):
            bound.add(node.id)
        elif isinstance(node, ast.alias):
            bound.add(node.asname or node.name)
        elif isinstance(node, ast.ExceptHandler):
            bound.add(node.name)
    return bound


def tree_of(path):
    return ast.parse(path.read_text("utf-8"))


class PackageTest(unittest.TestCase):
    def test_the_folder_holds_python_files_only(self):
        found = [path for path in FOLDER.rglob("*") if "__pycache__" not in path.parts]
        self.assertEqual(sorted(found), FILES)
        self.assertIn(FOLDER / "__init__.py", FILES)

    def test_what_the_interface_lists_is_defined_in_its_file(self):
        for name, listed in DEFINED.items():
            body = tree_of(FOLDER / f"{name}.py").body
            defined = [node.name for node in body if isinstance(node, (ast.FunctionDef, ast.ClassDef))]
            self.assertLessEqual(set(listed), set(defined))

    def test_characters_and_sizes(self):
        for path in FILES:
            text = path.read_text("utf-8")
            with self.subTest(path.name):
                self.assertRegex(text, r"\A[\n -~]*\Z")
                self.assertLessEqual(len(text.splitlines()), 399)
                self.assertLessEqual(max(len(line) for line in text.splitlines()), 120)

    def test_functions_are_small(self):
        for tree in map(tree_of, FILES):
            for node in ast.walk(tree):
                if isinstance(node, ast.FunctionDef):
                    self.assertLessEqual(node.end_lineno - node.lineno + 1, 40, node.name)

    def test_imports_are_from_the_package_or_the_allowed_library(self):
        for tree in map(tree_of, FILES):
            for node in ast.walk(tree):
                self.assertNotIsInstance(node, ast.Import)
                if isinstance(node, ast.ImportFrom):
                    self.assertEqual(node.level, 0)
                    self.assertIn(node, tree.body)
                    if node.module.split(".")[0] != "mixpace":
                        self.assertLessEqual({alias.name for alias in node.names}, set(LIBRARY[node.module]))

    def test_names_are_own_names_or_allowed_builtins(self):
        for tree in map(tree_of, FILES):
            bound = names_bound(tree)
            used = {node.id for node in ast.walk(tree) if isinstance(node, ast.Name)}
            self.assertLessEqual(used - bound, BUILTINS)
            self.assertEqual(bound & set(dir(builtins)), set())

    def test_properties_are_the_only_decorators(self):
        for tree in map(tree_of, FILES):
            for node in ast.walk(tree):
                for decorator in getattr(node, "decorator_list", []):
                    self.assertEqual(ast.unparse(decorator), "property")

    def test_strings_have_no_percent_sign_and_no_barred_word(self):
        for tree in map(tree_of, FILES):
            for node in ast.walk(tree):
                if isinstance(node, ast.Constant) and isinstance(node.value, str):
                    self.assertNotIn("%", node.value)
            code = ast.unparse(tree)
            for word in UNUSED_WORDS:
                self.assertIsNone(re.search(rf"\b{word}\b", code), word)


if __name__ == "__main__":
    unittest.main()
