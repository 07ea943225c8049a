"""The package uses nothing but itself, and its files keep the simple ones of the rules of the subset."""

import ast
import builtins
import pathlib
import re
import subprocess
import sys
import unittest

from pairbinds import errors

TOP = pathlib.Path(__file__).resolve().parent.parent
FOLDER = TOP / "pairbinds"
# What a file may import from outside of the package; nothing in it knows a time, a chance or a file.
LIBRARY = {
    "heapq": {"heappush", "heappop", "heapify", "heapreplace", "heappushpop"},
    "math": {"gcd", "lcm", "isqrt", "comb", "perm", "factorial"},
    "itertools": {"product", "combinations", "permutations", "chain", "accumulate", "pairwise", "islice",
                  "zip_longest"},
    "collections": {"defaultdict"},
    "__future__": {"annotations"},
}
BUILTINS = set("""
    len range enumerate zip min max sum abs sorted reversed int str bool bytes list tuple dict set frozenset isinstance
    ord repr any all divmod pow getattr hasattr setattr iter next map super property staticmethod classmethod object
    Exception ValueError TypeError KeyError IndexError LookupError ZeroDivisionError ArithmeticError OverflowError
    RuntimeError NotImplementedError AttributeError StopIteration NotImplemented
""".split())
BARRED_WORDS = set("""
    type typing typing_extensions enum Enum IntEnum StrEnum Flag IntFlag Generic Protocol ABC ABCMeta namedtuple
    NamedTuple TypedDict TYPE_CHECKING abstractmethod dataclass overload contextmanager
""".split())
# Run apart, so that what the tests themselves open or ask for is not heard.
EXERCISE = """
import sys
from pairbinds.books import Book
from pairbinds.desk import Desk
from pairbinds.errors import BindError, Missing, NothingLeft
from pairbinds.library import Library
from pairbinds.pages import read_page, write_page
from pairbinds.partings import least_operand, parting, two_readings
from pairbinds.reading import Reader, how_many, read, readings, stuck
from pairbinds.repairs import lacks, repair
from pairbinds.shapes import Group, Shape
from pairbinds.ties import Ties
from pairbinds.trees import check_tree, full_text, is_tree, parts_of, plain, text_of
from pairbinds.wishes import Answer, Broken, Ringed, Settled, Wishes
from pairbinds.words import is_word, words_of
from pairbinds.writing import columns, rounded, written
heard = []
sys.addaudithook(lambda event, told: heard.append(event))
before = set(sys.modules)
words_of('a + ( b )')
is_word('+')
shape = Shape('_ ? _ : _')
shape.filled('a', 'b', 'c')
[shape.words, shape.holes, shape.is_plain, shape.outer, len(shape), '?' in shape, repr(shape), shape == shape]
[repr(Shape.infix('+')), repr(Shape.prefix('-')), repr(Shape.postfix('!'))]
[repr(Group('a')), repr(Group.parsed('sum infix left'))]
ties = Ties(['a', 'b', 'c'], [('a', 'b')])
[ties.names, ties.pairs(), ties.needed(), ties.with_ties(('b', 'c')), ties.above('b'), ties.below('a'), ties.levels()]
[list(ties.orders()), ties | ties, ties & ties, -ties, ties.is_within(ties), ties == ties, 'a' in ties, len(ties)]
tree = ('_ + _', ('round', ('word', 'a')), ('word', 'b'))
[is_tree(tree), check_tree(tree), list(parts_of(tree)), text_of(tree), plain(tree), full_text(tree), repr(ties)]
book = Book([Group('a')], [('_ + _', 'a'), ('[ _ , _ ]', None)]) | Book.chained()
[book.groups(), book.operators(), book.ties, book.group_of('_ + _'), book.is_operand('a'), book.unfit(tree)]
[book.may_stand('_ + _', '_ + _', 0), book.needs(tree), book.with_ties(), book == book, len(book), repr(book)]
reader = Reader(book)
[readings(book, 'a + b'), how_many(book, 'a + b'), read(book, '[ a , b ]'), stuck(book, 'a + b + c'), reader('a')]
[reader.asked, reader.first('a +', 'a')]
[rounded(book, tree), written(book, tree), columns(book), least_operand(book), two_readings(book)]
[parting(book, book), lacks(book, tree), repair(book, '[ a + b , c ]'), repair(book, 'a + b + c')]
wishes = Wishes(book)
[wishes.said('a', 'a'), wishes.shown(tree), wishes.barred(tree), repr(wishes.answer()), wishes.answer().holds(wishes)]
[wishes.drop(1), wishes.wishes(), repr(wishes.answer()), wishes.answer().holds(wishes), wishes.drop(3)]
[wishes.answer().holds(wishes), wishes.chain('a', 'a'), wishes.book(), wishes.twin(), len(wishes), repr(wishes)]
[Answer().told(), Settled(ties).ties, Ringed([]).chain(), Broken(1, []).chains(), Broken(1, []).number]
library = Library()
library.apply(('module', 'm'), ('group', 'm', 'a infix left'), ('operator', 'm', '_ + _', 'a'))
library.apply(('module', 'n'), ('use', 'n', 'm'), ('operator', 'n', '[ _ ]', None), ('module', 'o'), ('drop', 'o'))
[library.undo(), library.redo(), library.history(), library.busy, library.modules(), library.uses('n')]
[library.said('n'), library.book('n'), library.read('n', '[ x ]'), library.kept(), library.computed]
[library.tried(('tie', 'n', 'a', 'a'), ('drop', 'n'), name='m', text='x'), library.twin() == library]
[library.set_limit(9), library.limit, 'm' in library, len(library), repr(library)]
desk = Desk(library=read_page(write_page(library)))
lines = ('read n [ x + y ]', 'stuck n x +', 'needed n', 'names', 'undo', 'redo', 'group n b infix none', 'what')
[[desk(line) for line in lines], desk.log(), desk.library(), len(desk)]
wrong = (words_of, Shape, Group, Group.parsed, check_tree, text_of, ties.above, book.group_of, book.unfit, book.needs,
         reader, lambda value: read(book, value), lambda value: next(ties.orders(most=value)),
         lambda value: Book([], [(value, value)]), lambda value: Ties(['a'], [('a', 'a')]),
         lambda value: written(book, value), lambda value: parting(book, Book([], [])),
         lambda value: lacks(book, value), lambda value: repair(book, value), wishes.shown, wishes.barred, wishes.drop,
         library.apply, library.book,
         lambda value: library.read('m', value), library.set_limit, lambda value: Library().undo(), read_page)
for call in wrong:
    try:
        call(None)
        assert False
    except (BindError, Missing, NothingLeft) as error:
        repr(error)
heard = [event for event in heard if event not in ('object.__getattr__', 'object.__setattr__')]
assert heard == [], heard
assert set(sys.modules) == before
"""


def files():
    return sorted(FOLDER.rglob("*.py"))


def tree_of(path):
    return ast.parse(path.read_text(encoding="utf-8"))


def docstrings(tree):
    found = set()
    for node in ast.walk(tree):
        if isinstance(node, (ast.Module, ast.ClassDef, ast.FunctionDef)) and ast.get_docstring(node) is not None:
            found.add(node.body[0].value)
    return found


class TestPointOne(unittest.TestCase):
    def test_imports(self):
        for path in files():
            for node in ast.walk(tree_of(path)):
                self.assertNotIsInstance(node, ast.Import, path)
                if isinstance(node, ast.ImportFrom):
                    self.assertEqual(node.level, 0)
                    names = {alias.name for alias in node.names}
                    self.assertNotIn("*", names)
                    if node.module.split(".")[0] != "pairbinds":
                        self.assertLessEqual(names, LIBRARY.get(node.module, set()), path)

    def test_no_other_builtins(self):
        for path in files():
            used = {node.id for node in ast.walk(tree_of(path)) if isinstance(node, ast.Name)}
            self.assertEqual((used & set(dir(builtins))) - BUILTINS, set(), path)

    def test_nothing_outside_is_asked(self):
        done = subprocess.run([sys.executable, "-c", EXERCISE], cwd=TOP, capture_output=True, text=True, check=False)
        self.assertEqual((done.returncode, done.stderr), (0, ""))


class TestRules(unittest.TestCase):
    def test_the_folder(self):
        self.assertTrue((FOLDER / "__init__.py").is_file())
        for path in FOLDER.rglob("*"):
            if "__pycache__" not in path.parts:
                self.assertRegex(path.name, r"\A(__init__|[a-z][a-z0-9_]*)\.py\Z")

    def test_lines_and_characters(self):
        for path in files():
            text = path.read_text(encoding="utf-8")
            self.assertIsNone(re.search(r"[^ -~\n]", text), path)
            self.assertLessEqual(len(text.splitlines()), 399, path)
            self.assertLessEqual(max(map(len, text.splitlines())), 120, path)

    def test_strings(self):
        for path in files():
            for node in ast.walk(tree_of(path)):
                if isinstance(node, ast.Constant) and isinstance(node.value, str):
                    self.assertNotIn("%", node.value, path)
                    self.assertFalse(node.value.endswith(("._", ".__")), path)
                self.assertFalse(isinstance(node, ast.Constant) and isinstance(node.value, (float, complex)), path)
                self.assertNotIsInstance(node, (ast.Div, ast.Global, ast.AsyncFunctionDef), path)

    def test_words_that_do_not_occur(self):
        for path in files():
            tree = tree_of(path)
            left_out = docstrings(tree)
            for node in ast.walk(tree):
                told = [getattr(node, field, None) for field in ("id", "attr", "arg", "name")]
                if isinstance(node, ast.Constant) and node not in left_out:
                    told.append(node.value)
                for text in told:
                    if isinstance(text, str):
                        self.assertEqual(set(re.findall(r"\w+", text)) & BARRED_WORDS, set(), path)

    def test_functions_are_small(self):
        for path in files():
            for node in ast.walk(tree_of(path)):
                if isinstance(node, ast.FunctionDef):
                    self.assertLessEqual(node.end_lineno - node.lineno + 1, 40, node.name)

    def test_names_are_free(self):
        for path in files():
            tree = tree_of(path)
            own = {node.name for node in ast.walk(tree) if isinstance(node, ast.ClassDef)}
            for node in ast.walk(tree):
                if isinstance(node, ast.ImportFrom):
                    own |= {alias.name for alias in node.names}
            for node in ast.walk(tree):
                if isinstance(node, ast.arg):
                    bound = node.arg
                elif isinstance(node, ast.Name) and isinstance(node.ctx, ast.Store):
                    bound = node.id
                else:
                    continue
                self.assertNotIn(bound, set(dir(builtins)) | own | {"law", "elements", "register", "mro"}, path)

    def test_expressions(self):
        for path in files():
            for node in ast.walk(tree_of(path)):
                self.assertNotIsInstance(node, (ast.GeneratorExp, ast.Await, ast.Set), path)
                if isinstance(node, ast.Compare) and isinstance(node.ops[0], (ast.Is, ast.IsNot)):
                    self.assertIsInstance(node.comparators[0], ast.Constant)
                if isinstance(node, ast.Call):
                    for given in node.args:
                        if isinstance(given, ast.Starred):
                            self.assertIsInstance(given.value, (ast.Name, ast.Attribute), path)

    def test_only_own_errors_are_caught(self):
        for path in files():
            for node in ast.walk(tree_of(path)):
                if isinstance(node, ast.ExceptHandler):
                    for caught in node.type.elts if isinstance(node.type, ast.Tuple) else [node.type]:
                        self.assertIsInstance(caught, ast.Name)
                        self.assertIn(caught.id, vars(errors))
                        self.assertNotIn(caught.id, dir(builtins))

    def test_names_of_methods_properties_and_attributes_differ(self):
        names = {"methods": set(), "properties": set(), "attributes": set()}
        setters = set()
        for path in files():
            for node in ast.walk(tree_of(path)):
                if isinstance(node, ast.ClassDef):
                    for row in node.body:
                        if isinstance(row, ast.FunctionDef):
                            over = {ast.unparse(one) for one in row.decorator_list}
                            setters |= {row.name} if row.name + ".setter" in over else set()
                            is_property = "property" in over or row.name in setters
                            names["properties" if is_property else "methods"].add(row.name)
                elif isinstance(node, ast.Attribute) and isinstance(node.ctx, ast.Store):
                    names["attributes"].add(node.attr)
        self.assertEqual(names["methods"] & (names["properties"] | names["attributes"]), set())
        self.assertEqual(names["properties"] & names["attributes"], setters)

    def test_each_import_is_used(self):
        for path in files():
            tree = tree_of(path)
            used = {node.id for node in ast.walk(tree) if isinstance(node, ast.Name)}
            for node in ast.walk(tree):
                if isinstance(node, ast.ImportFrom):
                    self.assertLessEqual({alias.name for alias in node.names}, used, path)

    def test_no_warnings(self):
        for path in files():
            done = subprocess.run([sys.executable, "-W", "error", "-c", "import ast, sys; ast.parse(sys.stdin.read())"],
                                  input=path.read_text(encoding="utf-8"), text=True, check=False)
            self.assertEqual(done.returncode, 0, path)


if __name__ == "__main__":
    unittest.main()
