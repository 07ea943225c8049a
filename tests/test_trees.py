import inspect
import random
import unittest

from pairbinds import trees
from pairbinds.errors import BindError, InvalidTree
from pairbinds.shapes import Shape
from pairbinds.trees import check_tree, full_text, is_bare, is_tree, parts_of, plain, text_of
from values import OTHERS, nested

A, B, C, D = ("word", "a"), ("word", "b"), ("word", "c"), ("word", "d")
SHAPES = (
    "_ + _", "_ ? _ : _", "_ x _ y _ z _", "_ k _ l _ m _ n _",
    "- _", "if _ then _", "if _ then _ else _", "k _ l _ m _ n _",
    "_ !", "_ [ _ ]", "_ [ _ , _ ]", "_ k _ l _ m _ n",
    "{ _ }", "{ _ , _ }", "{ _ , _ ; _ }", "[ _ ]",
)
# What is no tree wherever it stands, with nothing in it that could be a wrong tree of its own.
WRONG = OTHERS + (
    "a", "word", "_ + _", ("word",), ("round",), ("_ + _",), ("word", "A"), ("word", "+"), ("word", "abcdefghi"),
    ("word", ""), ("word", 1), ("word", None), ("word", "a", "b"), ("word", A), ("word", "a", A), ("word", ["a"]),
    ("round", A, B), ("round", A, "b"), ("_ + _", A), ("_ + _", A, B, C), ("- _", A, B), ("_ !", A, B),
    ("[ _ , _ ]", A), ("_ ? _ : _", A, B), ("+", A), ("_", A), ("_ + _ ", A, B), ("_+_", A, B), ("_ + _ + _", A, B, C),
    ("a _ b _ c _ d _ e", A, B, C, D), ("Word", "a"), ("round ", A), ("Round", A), ("( _ )", A), ("_ ( _ )", A, B),
    ("", A), (None, A), (1, A), (A, A), (Shape("- _"), A), (("- _",), A), (["- _"], A), ("words", "a"),
    ["word", "a"], ["round", A], ["_ + _", A, B], [A], (A,), (A, B), ("word", ("word", "a")), Shape("_ + _"),
)


def random_tree(chance, parts, rounds=True):
    """A tree with about so many parts."""
    if parts <= 1:
        return ("word", chance.choice("abcdz"))
    if rounds and chance.random() < 0.25:
        return ("round", random_tree(chance, parts - 1, rounds))
    shape = chance.choice(SHAPES)
    holes = shape.split(" ").count("_")
    return (shape, *[random_tree(chance, (parts - 1) // holes, rounds) for _ in range(holes)])


def slow_parts(tree, path=()):
    """The pairs of paths and parts, in the order of the text."""
    below = () if tree[0] == "word" else tree[1:]
    return [(path, tree)] + [pair for at, part in enumerate(below) for pair in slow_parts(part, path + (at,))]


def slow_text(tree):
    if tree[0] == "word":
        return tree[1]
    texts = [slow_text(part) for part in tree[1:]]
    return "( " + texts[0] + " )" if tree[0] == "round" else Shape(tree[0]).filled(*texts)


def slow_plain(tree):
    if tree[0] == "word":
        return tree
    below = tuple(slow_plain(part) for part in tree[1:])
    return below[0] if tree[0] == "round" else (tree[0],) + below


def slow_full(tree, top=True):
    if tree[0] == "word":
        return tree[1]
    if tree[0] == "round":
        return slow_full(tree[1], top)
    text = Shape(tree[0]).filled(*[slow_full(part, False) for part in tree[1:]])
    return text if top or tree[0][0] != "_" and tree[0][-1] != "_" else "( " + text + " )"


def part_at(tree, path):
    for at in path:
        tree = tree[at + 1]
    return tree


def with_part(tree, path, part):
    """The tree with another part at a path."""
    if not path:
        return part
    at = path[0] + 1
    return tree[:at] + (with_part(tree[at], path[1:], part),) + tree[at + 1:]


def deep(depth, *around):
    """A tree nested so deep, with these first items in turn around it."""
    tree = A
    for at in range(depth - 1):
        head = around[at % len(around)]
        holes = 1 if head == "round" else head.split(" ").count("_")
        tree = (head, *[B] * (holes - 1), tree)
    return tree


class TreesCase(unittest.TestCase):
    def assert_wrong(self, value, path):
        self.assertIs(is_tree(value), False)
        for call in (check_tree, text_of, plain, full_text, lambda tree: next(parts_of(tree)),
                     lambda tree: list(parts_of(tree))):
            with self.assertRaises(InvalidTree) as caught:
                call(value)
            self.assertIs(type(caught.exception), InvalidTree)
            self.assertIsInstance(caught.exception, BindError)
            self.assertEqual(caught.exception.path, path)
            self.assertIs(type(caught.exception.path), tuple)
            self.assertEqual(caught.exception.code, "InvalidTree")

    def assert_right(self, tree):
        self.assertIs(is_tree(tree), True)
        self.assertIsNone(check_tree(tree))


class TestTrees(TreesCase):
    def test_each_form(self):
        for tree in (A, ("word", "word"), ("word", "round"), ("word", "abcdefgh"), ("round", A),
                     ("round", ("round", A)), ("_ + _", A, B), ("- _", A), ("_ !", A), ("[ _ ]", A), ("_ word _", A, B),
                     ("round _", A)):
            self.assert_right(tree)
        for shape in SHAPES:
            holes = Shape(shape).holes
            self.assert_right((shape, *[A] * holes))
            for many in (*range(holes), holes + 1, holes + 2):
                self.assert_wrong((shape, *[A] * many), ())

    def test_random_trees(self):
        chance = random.Random(1)
        for _ in range(200):
            self.assert_right(random_tree(chance, chance.randint(1, 60)))

    def test_what_is_no_tree(self):
        for value in WRONG:
            self.assert_wrong(value, ())

    def test_each_wrong_part_in_each_place(self):
        whole = ("_ ? _ : _", ("round", ("- _", A)), ("[ _ , _ ]", B, ("round", C)), ("_ [ _ ]", ("_ !", D), A))
        for path, _ in slow_parts(whole):
            for value in WRONG:
                self.assert_wrong(with_part(whole, path, value), path)

    def test_two_wrong_parts(self):
        chance = random.Random(2)
        around = beside = 0
        for _ in range(300):
            tree = random_tree(chance, 40)
            paths = [path for path, _ in slow_parts(tree)]
            one, other = [paths[at] for at in sorted(chance.sample(range(len(paths)), 2))]
            wrong = with_part(tree, other, chance.choice(WRONG))
            if other[:len(one)] == one:
                around += 1
                self.assert_wrong(with_part(wrong, one, part_at(wrong, one) + (A,)), one)
            else:
                beside += 1
                self.assert_wrong(with_part(wrong, one, chance.choice(WRONG)), one)
        self.assertGreater(min(around, beside), 20)

    def test_a_tree_counts_ahead_of_the_trees_in_it(self):
        self.assert_wrong(("_ + _", None, None), (0,))
        self.assert_wrong(("_ + _", A, None), (1,))
        self.assert_wrong(("_ + _", None), ())
        self.assert_wrong(("round", ("_ + _", ("- _", None), None)), (0, 0, 0))
        self.assert_wrong(("_ + _", ("- _", None, None), None), (0,))
        self.assert_wrong(("_ + _", ("round", ("word", "A")), ("word", "B")), (0, 0))

    def test_lists_are_no_trees(self):
        self.assert_wrong(["word", "a"], ())
        self.assert_wrong(("_ + _", A, ["word", "a"]), (1,))
        self.assert_wrong(("_ + _", [A], ["word", "a"]), (0,))

    def test_deep_trees(self):
        for around in (("round",), ("- _",), ("_ !",), ("_ + _",), ("round", "- _"), ("[ _ , _ ]", "round", "_ + _")):
            for depth in (59, 60, 61, 80):
                tree = deep(depth, *around)
                self.assert_right(tree)
                self.assertEqual(max(len(path) for path, _ in parts_of(tree)), depth - 1)
                self.assertEqual(text_of(tree), slow_text(tree))
                self.assertEqual(plain(tree), slow_plain(tree))
                self.assertEqual(full_text(tree), slow_full(tree))

    def test_a_wrong_part_deep_in_a_tree(self):
        tree = deep(60, "round", "_ + _")
        path = max((path for path, _ in slow_parts(tree)), key=len)
        for at in range(len(path) + 1):
            self.assert_wrong(with_part(tree, path[:at], None), path[:at])
            self.assert_wrong(with_part(tree, path[:at], nested(30, tuple)), path[:at])

    def test_200_parts(self):
        tree = ("round", A)
        for at in range(66):
            tree = ("_ ? _ : _", tree, B, C) if at % 2 else ("_ ? _ : _", B, tree, C)
        self.assertEqual(len(slow_parts(tree)), 200)
        self.assert_right(tree)
        self.assertEqual(list(parts_of(tree)), slow_parts(tree))
        self.assertEqual(text_of(tree), slow_text(tree))
        self.assert_wrong(with_part(tree, (2,), None), (2,))

    def test_by_name(self):
        self.assertIs(is_tree(value=A), True)
        self.assertIsNone(check_tree(value=A))
        self.assertEqual(list(parts_of(tree=A)), [((), A)])
        self.assertEqual((text_of(tree=A), plain(tree=A), full_text(tree=A)), ("a", A, "a"))

    def test_defined_here(self):
        for function in (is_tree, check_tree, parts_of, text_of, plain, full_text):
            self.assertEqual(function.__module__, trees.__name__)


class TestParts(TreesCase):
    def test_it_is_a_generator(self):
        self.assertTrue(inspect.isgeneratorfunction(parts_of))
        asked = parts_of(None)
        with self.assertRaises(InvalidTree):
            next(asked)

    def test_in_order(self):
        tree = ("_ + _", ("round", ("- _", A)), ("[ _ , _ ]", B, C))
        self.assertEqual(list(parts_of(tree)), [
            ((), tree), ((0,), tree[1]), ((0, 0), ("- _", A)), ((0, 0, 0), A),
            ((1,), tree[2]), ((1, 0), B), ((1, 1), C),
        ])
        self.assertEqual(list(parts_of(A)), [((), A)])

    def test_random_trees(self):
        chance = random.Random(3)
        for _ in range(200):
            tree = random_tree(chance, chance.randint(1, 80))
            found = list(parts_of(tree))
            self.assertEqual(found, slow_parts(tree))
            self.assertTrue(all(type(pair) is tuple and type(pair[0]) is tuple for pair in found))
            # The operands stand in the order of the text.
            operands = [part[1] for _, part in found if part[0] == "word"]
            words = [word for word in text_of(tree).split(" ") if word in operands]
            self.assertEqual([word for word in words if word in "abcd"], [word for word in operands if word in "abcd"])

    def test_the_error_comes_ahead_of_the_first_part(self):
        asked = parts_of(("_ + _", A, None))
        with self.assertRaises(InvalidTree) as caught:
            next(asked)
        self.assertEqual(caught.exception.path, (1,))


class TestTexts(TreesCase):
    def test_text_of(self):
        for tree, text in (
            (A, "a"), (("round", A), "( a )"), (("round", ("round", A)), "( ( a ) )"), (("_ + _", A, B), "a + b"),
            (("- _", ("- _", A)), "- - a"), (("_ !", ("_ !", A)), "a ! !"), (("[ _ , _ ]", A, B), "[ a , b ]"),
            (("_ ? _ : _", A, ("round", ("_ + _", A, B)), C), "a ? ( a + b ) : c"),
            (("_ * _", ("_ + _", A, B), C), "a + b * c"), (("if _ then _ else _", A, B, C), "if a then b else c"),
        ):
            self.assertEqual(text_of(tree), text)

    def test_plain(self):
        self.assertEqual(plain(A), A)
        self.assertEqual(plain(("round", A)), A)
        self.assertEqual(plain(("round", ("round", ("_ + _", ("round", A), B)))), ("_ + _", A, B))
        self.assertEqual(plain(("[ _ , _ ]", ("round", ("- _", ("round", A))), B)), ("[ _ , _ ]", ("- _", A), B))

    def test_full_text(self):
        for tree, text in (
            (A, "a"), (("round", A), "a"), (("_ + _", A, B), "a + b"), (("round", ("_ + _", A, B)), "a + b"),
            (("_ + _", ("_ + _", A, B), C), "( a + b ) + c"),
            (("_ + _", ("round", ("_ + _", A, B)), C), "( a + b ) + c"),
            (("_ + _", ("round", A), ("round", ("round", B))), "a + b"),
            (("- _", ("- _", ("- _", A))), "- ( - ( - a ) )"), (("_ !", ("_ !", A)), "( a ! ) !"),
            (("[ _ , _ ]", ("_ + _", A, B), C), "[ ( a + b ) , c ]"), (("[ _ ]", ("[ _ ]", A)), "[ [ a ] ]"),
            (("_ + _", ("[ _ ]", A), ("[ _ ]", ("- _", B))), "[ a ] + [ ( - b ) ]"),
            (("_ ? _ : _", A, ("_ ? _ : _", A, B, C), ("- _", C)), "a ? ( a ? b : c ) : ( - c )"),
        ):
            self.assertEqual(full_text(tree), text)

    def test_is_bare(self):
        for tree in (A, ("round", A), ("round", ("- _", A)), ("[ _ ]", A), ("[ _ , _ ]", A, B)):
            self.assertIs(is_bare(tree), False)
        for tree in (("_ + _", A, B), ("- _", A), ("_ !", A), ("_ [ _ ]", A, B), ("if _ then _", A, B)):
            self.assertIs(is_bare(tree), True)

    def test_random_trees(self):
        chance = random.Random(4)
        for _ in range(300):
            tree = random_tree(chance, chance.randint(1, 80))
            self.assertEqual(text_of(tree), slow_text(tree))
            self.assertEqual(plain(tree), slow_plain(tree))
            self.assertEqual(full_text(tree), slow_full(tree))
            self.assertEqual(plain(plain(tree)), plain(tree))
            self.assertEqual(full_text(plain(tree)), full_text(tree))
            self.assertNotIn("round", [part[0] for _, part in parts_of(plain(tree))])

    def test_long_texts(self):
        tree = A
        for _ in range(40):
            tree = ("_ ? _ : _", tree, B, C)
        self.assertEqual(text_of(tree), "a" + " ? b : c" * 40)
        self.assertEqual(full_text(tree), "( " * 39 + "a" + " ? b : c )" * 39 + " ? b : c")


if __name__ == "__main__":
    unittest.main()
