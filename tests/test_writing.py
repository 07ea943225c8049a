import random
import unittest

from pairbinds import writing
from pairbinds.books import Book
from pairbinds.errors import BindError, InvalidTree, Unfit
from pairbinds.partings import two_readings
from pairbinds.reading import how_many, read
from pairbinds.shapes import Group, Shape
from pairbinds.trees import is_bare, parts_of, plain, text_of
from pairbinds.writing import columns, rounded, written
from slow import SIDES_OF, SlowBook, random_book
from test_trees import WRONG, deep, part_at, slow_plain, slow_text, with_part
from values import made

A, B, C, D = [("word", letter) for letter in "abcd"]
MANY_SIGNS = "+*-!?:[],.;<>=@#&"


def book_tree(chance, shapes, parts, rounds=0.2):
    """A tree of some shapes, with now and then a "round"."""
    if parts <= 1 or not shapes:
        return ("word", chance.choice("xyz"))
    if chance.random() < rounds:
        return ("round", book_tree(chance, shapes, parts - 1, rounds))
    shape = chance.choice(shapes)
    holes = shape.split(" ").count("_")
    return (shape, *[book_tree(chance, shapes, (parts - 1) // holes, rounds) for _ in range(holes)])


def slow_rounded(slow, tree):
    """A plain tree with brackets, straight from the document."""
    if tree[0] == "word":
        return tree
    below = []
    for hole, part in enumerate(tree[1:]):
        inner = slow_rounded(slow, part)
        below.append(inner if slow.may_stand(part[0], tree[0], hole) else ("round", inner))
    return (tree[0], *below)


def without_round(tree, path):
    """A tree without its "round" at a path."""
    return with_part(tree, path, part_at(tree, path)[1])


class WritingCase(unittest.TestCase):
    def assert_raises(self, error, path, book, tree):
        for call in (rounded, written):
            with self.assertRaises(error) as caught:
                call(book, tree)
            self.assertIs(type(caught.exception), error)
            self.assertIsInstance(caught.exception, BindError)
            self.assertEqual(caught.exception.path, path)
            self.assertIs(type(caught.exception.path), tuple)
            self.assertEqual(caught.exception.code, error.__name__)


class TestRounded(WritingCase):
    def setUp(self):
        self.book = Book(
            [Group("sum", side="left"), Group("pow", side="right"), Group("cmp"), Group("neg", "prefix", side="many"),
             Group("not", "prefix"), Group("fac", "postfix")],
            [("_ + _", "sum"), ("_ ^ _", "pow"), ("_ < _", "cmp"), ("- _", "neg"), ("! _", "not"), ("_ ?", "fac"),
             ("[ _ , _ ]", None), ("_ : _ ; _", "sum"), ("_ mod _", "sum")],
            [("pow", "neg"), ("neg", "sum"), ("sum", "cmp")],
        )

    def test_of_the_document(self):
        tree = ("_ * _", ("_ + _", A, B), C)
        self.assertEqual(written(Book.chained("*", "+"), tree), "( a + b ) * c")
        self.assertEqual(rounded(Book.chained("*", "+"), tree), ("_ * _", ("round", ("_ + _", A, B)), C))

    def test_told_one_by_one(self):
        plus, power, less, minus = [lambda *trees, head=head: (head, *trees)
                                    for head in ("_ + _", "_ ^ _", "_ < _", "- _")]
        for tree, text in (
            (A, "a"), (("round", A), "a"), (("round", ("round", plus(A, B))), "a + b"),
            (plus(plus(A, B), C), "a + b + c"), (plus(A, plus(B, C)), "a + ( b + c )"),
            (power(A, power(B, C)), "a ^ b ^ c"), (power(power(A, B), C), "( a ^ b ) ^ c"),
            (less(less(A, B), less(C, D)), "( a < b ) < ( c < d )"), (less(plus(A, B), C), "a + b < c"),
            (plus(less(A, B), C), "( a < b ) + c"), (minus(minus(A)), "- - a"),
            (("! _", ("! _", A)), "! ( ! a )"), (("_ ?", ("_ ?", A)), "( a ? ) ?"),
            (minus(("_ ?", A)), "- ( a ? )"), (("_ ?", minus(A)), "( - a ) ?"),
            (("! _", minus(A)), "! ( - a )"), (minus(power(A, B)), "- a ^ b"), (power(minus(A), B), "( - a ) ^ b"),
            (("[ _ , _ ]", plus(A, plus(B, C)), ("_ ?", ("_ ?", A))), "[ a + ( b + c ) , ( a ? ) ? ]"),
            (plus(("[ _ , _ ]", A, B), ("[ _ , _ ]", A, B)), "[ a , b ] + [ a , b ]"),
            (("_ : _ ; _", plus(A, B), ("_ : _ ; _", A, less(A, B), C), plus(A, B)),
             "a + b : a : a < b ; c ; ( a + b )"),
            (plus(("_ : _ ; _", A, B, C), ("_ : _ ; _", A, B, C)), "a : b ; c + ( a : b ; c )"),
            (("round", plus(("round", A), ("round", plus(("round", B), C)))), "a + ( b + c )"),
            (plus(("round", plus(A, B)), ("round", ("round", C))), "a + b + c"),
            (("[ _ , _ ]", ("round", plus(A, B)), ("round", C)), "[ a + b , c ]"),
        ):
            self.assertEqual(written(self.book, tree), text)
            self.assertEqual(text_of(rounded(self.book, tree)), text)
            self.assertEqual(plain(rounded(self.book, tree)), plain(tree))

    def test_random_trees(self):
        chance = random.Random(1)
        seen = {"none": 0, "some": 0, "nested": 0}
        for _ in range(150):
            groups, operators, ties = random_book(chance)
            book, slow = made(groups, operators, ties), SlowBook(groups, operators, ties)
            for _ in range(15):
                tree = book_tree(chance, list(operators), chance.randint(1, 30))
                found = rounded(book, tree)
                self.assertEqual(found, slow_rounded(slow, slow_plain(tree)))
                self.assertEqual(written(book, tree), slow_text(found))
                self.assertIsNone(book.unfit(found))
                paths = [path for path, part in parts_of(found) if part[0] == "round"]
                seen["some" if paths else "none"] += 1
                seen["nested"] += any(one != path and path[:len(one)] == one for path in paths for one in paths)
                for path in paths:
                    self.assertTrue(is_bare(part_at(found, path)[1]))
                    self.assertIsNotNone(book.unfit(without_round(found, path)))
                self.assertEqual(rounded(book, found), found)
        self.assertGreater(min(seen.values()), 50)

    def test_what_is_written_is_read_again(self):
        chance = random.Random(2)
        many = 0
        for _ in range(150):
            groups, operators, ties = random_book(chance, 12, 12, MANY_SIGNS)
            book = made(groups, operators, ties)
            for _ in range(4):
                tree = book_tree(chance, list(operators), chance.randint(1, 20))
                text = written(book, tree)
                if len(text.split(" ")) > 60:
                    continue
                if two_readings(book) is None:
                    many += 1
                    self.assertEqual(how_many(book, text), 1)
                    self.assertEqual(read(book, text), rounded(book, tree))
                else:
                    self.assertGreater(how_many(book, text), 0)
        self.assertGreater(many, 200)

    def test_each_child_in_each_hole(self):
        """Shapes of one to four words of each kind and side."""
        words = iter([one + other for one in "abcdefgh" for other in "abcdefgh"])
        groups = {"o": ("infix", "left")}
        operators = {"_ == _": "o", "[ _ ]": None, "{ _ | _ }": None, "<< _ < _ > _ >>": None}
        names = iter("abcdefg")
        for kind, sides in SIDES_OF.items():
            for side in sides:
                name = next(names)
                groups[name] = (kind, side)
                for many in (1, 2, 4) if name != "a" else (1, 3, 4):
                    text = " _ ".join(next(words) for _ in range(many))
                    operators["_ " * (kind != "prefix") + text + " _" * (kind != "postfix")] = name
        for ties in ([], list(zip("abcdefg", "bcdefgo")), list(zip("gfedcba", "fedcbao"))):
            book, slow = made(groups, operators, ties), SlowBook(groups, operators, ties)
            for child in operators:
                inner = (child, *[("word", "x")] * Shape(child).holes)
                for shape in operators:
                    for hole in range(Shape(shape).holes):
                        below = [("word", "y")] * Shape(shape).holes
                        below[hole] = inner
                        tree = (shape, *below)
                        found = rounded(book, tree)
                        self.assertEqual(found, slow_rounded(slow, tree))
                        self.assertEqual(found != tree, not slow.may_stand(child, shape, hole))
                        self.assertEqual(read(book, written(book, tree)), found)

    def test_deep_trees(self):
        groups = [Group("s", side="left"), Group("p", "prefix")]
        book = Book(groups, [("_ + _", "s"), ("- _", "p"), ("[ _ , _ ]", None)], [("p", "s")])
        for around in (("_ + _",), ("- _",), ("- _", "_ + _"), ("[ _ , _ ]", "_ + _", "- _"), ("round", "- _")):
            tree = deep(60, *around)
            slow = SlowBook({"s": ("infix", "left"), "p": ("prefix", "once")}, dict(book.operators()), [("p", "s")])
            self.assertEqual(rounded(book, tree), slow_rounded(slow, slow_plain(tree)))
            self.assertEqual(written(book, tree), slow_text(rounded(book, tree)))
        rounds = A
        for _ in range(59):
            rounds = ("round", rounds)
        self.assertEqual((rounded(book, rounds), written(book, rounds)), (A, "a"))

    def test_what_was_returned_may_be_passed(self):
        book = Book([Group("p", "prefix")], [("- _", "p")])
        tree = rounded(book, deep(60, "- _"))
        self.assertEqual(max(len(path) for path, _ in parts_of(tree)), 117)
        self.assertEqual(rounded(book, tree), tree)
        self.assertEqual(written(book, tree), "- ( " * 58 + "- a" + " )" * 58)

    def test_the_ties_count(self):
        groups, operators = [Group("a"), Group("b")], [("_ * _", "a"), ("_ + _", "b")]
        tree = ("_ + _", ("_ * _", A, B), C)
        for ties, text in (([], "( a * b ) + c"), ([("a", "b")], "a * b + c"), ([("b", "a")], "( a * b ) + c")):
            self.assertEqual(written(Book(groups, operators, ties), tree), text)

    def test_errors(self):
        whole = ("round", ("_ + _", ("round", ("round", ("- _", A))), ("[ _ , _ ]", ("round", B), C)))
        for value in WRONG:
            self.assert_raises(InvalidTree, (), self.book, value)
            # The paths of InvalidTree are those in the tree that was passed, and this error comes first.
            self.assert_raises(InvalidTree, (0, 0, 0, 0, 0), self.book, with_part(whole, (0, 0, 0, 0, 0), value))
            foreign = ("_ ## _", ("word", "mod"), value)
            self.assert_raises(InvalidTree, (1,), self.book, foreign)
        for part in (("_ * _", A, B), ("+ _", A), ("word", "mod"), ("[ _ ]", ("word", "mod")), ("_ ! _", A, B),
                     ("! _ !!", A)):
            self.assert_raises(Unfit, (), self.book, part)
            self.assert_raises(Unfit, (), self.book, ("round", ("round", part)))
            self.assert_raises(Unfit, (0, 0), self.book, with_part(whole, (0, 0, 0, 0, 0), part))
            self.assert_raises(Unfit, (0,), self.book, with_part(whole, (0, 0), part))
            self.assert_raises(Unfit, (1, 0), self.book, with_part(whole, (0, 1, 0, 0), part))
            both = with_part(with_part(whole, (0, 1, 0, 0), part), (0, 1, 1), part)
            self.assert_raises(Unfit, (1, 0), self.book, both)
            self.assert_raises(Unfit, (0, 0), self.book, with_part(both, (0, 0, 0, 0, 0), part))
        self.assert_raises(Unfit, (), self.book, ("_ * _", ("word", "mod"), ("_ / _", A, B)))

    def test_a_part_of_the_same_group_is_no_error(self):
        for tree in (("_ < _", ("_ < _", A, B), C), ("! _", ("! _", A)), ("_ + _", A, ("_ mod _", B, C))):
            self.assertIsNotNone(self.book.unfit(tree))
            self.assertIsNone(self.book.unfit(rounded(self.book, tree)))

    def test_by_name(self):
        self.assertEqual(rounded(tree=A, book=self.book), A)
        self.assertEqual(written(tree=A, book=self.book), "a")
        self.assertEqual(columns(book=Book([], [])), [])

    def test_defined_here(self):
        for function in (rounded, written, columns):
            self.assertEqual(function.__module__, writing.__name__)


class TestColumns(unittest.TestCase):
    def test_told_one_by_one(self):
        book = Book(
            [Group("sum", side="left"), Group("abcdefgh", "prefix"), Group("fac", "postfix"), Group("q", side="right")],
            [("_ + _", "sum"), ("- _", "abcdefgh"), ("_ !", "fac"), ("[ _ , _ ]", None), ("_ ? _ : _", "q"),
             ("begin _ then _ else _ end", None), ("_ longword _ longhole _", "q")],
            [("fac", "abcdefgh"), ("abcdefgh", "sum"), ("sum", "q")],
        )
        self.assertEqual(columns(book), [
            "- _                  abcdefgh prefix   2",
            "[ _ , _ ]            -        closed   0",
            "_ !                  fac      postfix  3",
            "_ + _                sum      infix    1",
            "_ ? _ : _            q        infix    0",
            "_ longword _ longhole _ q        infix    0",
            "begin _ then _ else _ end -        closed   0",
        ])

    def test_lengths_around_twenty(self):
        for many, spaces in ((6, 2), (7, 1), (8, 0)):
            text = "_ " + "a" * 8 + " _ " + "b" * (many - 1)
            self.assertEqual(len(text), 20 - spaces)
            book = Book([Group("g", "postfix")], [(text, "g")])
            self.assertEqual(columns(book), [text + " " * spaces + " g        postfix  0"])
        book = Book([Group("g", "postfix")], [("_ aaaaaaaa _ bbbbbbbb", "g")])
        self.assertEqual(columns(book), ["_ aaaaaaaa _ bbbbbbbb g        postfix  0"])

    def test_twelve_groups(self):
        book = Book.chained(*"!#&*+,-./:;<")
        rows = columns(book)
        self.assertEqual(rows[0], "_ ! _                a        infix   11")
        self.assertEqual(rows[1], "_ # _                b        infix   10")
        self.assertEqual(rows[2], "_ & _                c        infix    9")
        self.assertEqual(rows[-1], "_ < _                l        infix    0")
        self.assertEqual(len(rows), 12)

    def test_no_operators(self):
        self.assertEqual(columns(Book([], [])), [])
        self.assertEqual(columns(Book([Group("a")], [])), [])

    def test_random_books(self):
        chance = random.Random(3)
        for _ in range(60):
            groups, operators, ties = random_book(chance, 12, 20, MANY_SIGNS)
            slow = SlowBook(groups, operators, ties)
            expected = []
            for text, name in sorted(operators.items(), key=lambda pair: pair[0]):
                many = sum(one == name for one, _ in slow.ties)
                kind = "closed" if name is None else groups[name][0]
                expected.append(text.ljust(20) + " " + (name or "-").ljust(8) + " " + kind.ljust(7) + " "
                                + str(many).rjust(2))
            book = made(groups, operators, ties)
            self.assertEqual(columns(book), expected)
            first = columns(book)
            first.append(None)
            self.assertEqual(columns(book), expected)


if __name__ == "__main__":
    unittest.main()
