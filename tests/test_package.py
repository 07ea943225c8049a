"""The package uses nothing but itself, and its files keep the simple ones of the rules of the subset."""

import ast
import builtins
import pathlib
import re
import subprocess
import sys
import unittest

TOP = pathlib.Path(__file__).resolve().parent.parent
FOLDER = TOP / "pairbinds"
# What a file may import from outside of the package; nothing in it knows a time, a chance or a file.
LIBRARY = {
    "heapq": {"heappush", "heappop", "heapify", "heapreplace", "heappushpop"},
    "math": {"gcd", "lcm", "isqrt", "comb", "perm", "factorial"},
    "itertools": {"product", "combinations", "permutations", "chain", "accumulate", "pairwise", "islice",
                  "zip_longest"},
    "collections": {"defaultdict"},
    "__future__": {"annotations"},
}
BUILTINS = set("""
    len range enumerate zip min max sum abs sorted reversed int str bool bytes list tuple dict set frozenset isinstance
    ord repr any all divmod pow getattr hasattr setattr iter next map super property staticmethod classmethod object
    Exception ValueError TypeError KeyError IndexError LookupError ZeroDivisionError ArithmeticError OverflowError
    RuntimeError NotImplementedError AttributeError StopIteration NotImplemented
""".split())
BARRED_WORDS = set("""
    type typing typing_extensions enum Enum IntEnum StrEnum Flag IntFlag Generic Protocol ABC ABCMeta namedtuple
    NamedTuple TypedDict TYPE_CHECKING abstractmethod dataclass overload contextmanager
""".split())
# Run apart, so that what the tests themselves open or ask for is not heard.
EXERCISE = """
import sys
from pairbinds.errors import BindError
from pairbinds.shapes import Group, Shape
from pairbinds.words import is_word, words_of
heard = []
sys.addaudithook(lambda event, told: heard.append(event))
before = set(sys.modules)
words_of('a + ( b )')
is_word('+')
shape = Shape('_ ? _ : _')
shape.filled('a', 'b', 'c')
[shape.words, shape.holes, shape.is_plain, shape.outer, len(shape), '?' in shape, repr(shape), shape == shape]
[repr(Shape.infix('+')), repr(Shape.prefix('-')), repr(Shape.postfix('!'))]
[repr(Group('a')), repr(Group.parsed('sum infix left'))]
for call in (words_of, Shape, Group, Group.parsed):
    try:
        call(None)
    except BindError as error:
        repr(error)
heard = [event for event in heard if event not in ('object.__getattr__', 'object.__setattr__')]
assert heard == [], heard
assert set(sys.modules) == before
"""


def files():
    return sorted(FOLDER.rglob("*.py"))


def tree_of(path):
    return ast.parse(path.read_text(encoding="utf-8"))


def docstrings(tree):
    found = set()
    for node in ast.walk(tree):
        if isinstance(node, (ast.Module, ast.ClassDef, ast.FunctionDef)) and ast.get_docstring(node) is not None:
            found.add(node.body[0].value)
    return found


class TestPointOne(unittest.TestCase):
    def test_imports(self):
        for path in files():
            for node in ast.walk(tree_of(path)):
                self.assertNotIsInstance(node, ast.Import, path)
                if isinstance(node, ast.ImportFrom):
                    self.assertEqual(node.level, 0)
                    names = {alias.name for alias in node.names}
                    self.assertNotIn("*", names)
                    if node.module.split(".")[0] != "pairbinds":
                        self.assertLessEqual(names, LIBRARY.get(node.module, set()), path)

    def test_no_other_builtins(self):
        for path in files():
            used = {node.id for node in ast.walk(tree_of(path)) if isinstance(node, ast.Name)}
            self.assertEqual((used & set(dir(builtins))) - BUILTINS, set(), path)

    def test_nothing_outside_is_asked(self):
        done = subprocess.run([sys.executable, "-c", EXERCISE], cwd=TOP, capture_output=True, text=True, check=False)
        self.assertEqual((done.returncode, done.stderr), (0, ""))


class TestRules(unittest.TestCase):
    def test_the_folder(self):
        self.assertTrue((FOLDER / "__init__.py").is_file())
        for path in FOLDER.rglob("*"):
            if "__pycache__" not in path.parts:
                self.assertRegex(path.name, r"\A(__init__|[a-z][a-z0-9_]*)\.py\Z")

    def test_lines_and_characters(self):
        for path in files():
            text = path.read_text(encoding="utf-8")
            self.assertIsNone(re.search(r"[^ -~\n]", text), path)
            self.assertLessEqual(len(text.splitlines()), 399, path)
            self.assertLessEqual(max(map(len, text.splitlines())), 120, path)

    def test_strings(self):
        for path in files():
            for node in ast.walk(tree_of(path)):
                if isinstance(node, ast.Constant) and isinstance(node.value, str):
                    self.assertNotIn("%", node.value, path)
                    self.assertFalse(node.value.endswith(("._", ".__")), path)
                self.assertFalse(isinstance(node, ast.Constant) and isinstance(node.value, (float, complex)), path)
                self.assertNotIsInstance(node, (ast.Div, ast.Global, ast.AsyncFunctionDef), path)

    def test_words_that_do_not_occur(self):
        for path in files():
            tree = tree_of(path)
            left_out = docstrings(tree)
            for node in ast.walk(tree):
                told = [getattr(node, field, None) for field in ("id", "attr", "arg", "name")]
                if isinstance(node, ast.Constant) and node not in left_out:
                    told.append(node.value)
                for text in told:
                    if isinstance(text, str):
                        self.assertEqual(set(re.findall(r"\w+", text)) & BARRED_WORDS, set(), path)

    def test_functions_are_small(self):
        for path in files():
            for node in ast.walk(tree_of(path)):
                if isinstance(node, ast.FunctionDef):
                    self.assertLessEqual(node.end_lineno - node.lineno + 1, 40, node.name)

    def test_no_warnings(self):
        for path in files():
            done = subprocess.run([sys.executable, "-W", "error", "-c", "import ast, sys; ast.parse(sys.stdin.read())"],
                                  input=path.read_text(encoding="utf-8"), text=True, check=False)
            self.assertEqual(done.returncode, 0, path)


if __name__ == "__main__":
    unittest.main()
