import itertools
import random
import unittest

import slow
from pairbinds import repairs
from pairbinds.books import Book
from pairbinds.errors import BindError, InvalidText, InvalidTree, TooMany, Unfit
from pairbinds.reading import how_many, readings
from pairbinds.repairs import lacks, repair
from pairbinds.shapes import Group
from pairbinds.trees import text_of
from slow import SlowBook, closed, random_book
from test_books import slow_needs, tree_for
from test_reading import NO_TEXTS, random_words, sharing_book
from test_trees import WRONG, with_part
from values import made

A, B, C, X, Y, Z = [("word", letter) for letter in "abcxyz"]
LETTERS = "abcdefghijklmnopqrstuvwxyz"


def slow_repair(book, words):
    """The repair of a text, by looking at all trees with it that can fit with some ties."""
    everything = SlowBook(book.groups, book.operators, itertools.permutations(book.groups, 2))
    found = []
    for tree in slow.all_trees(everything, words):
        missing = sorted(set(slow_needs(book, tree)) - book.ties)
        if not any(one == other for one, other in closed(book.ties | set(missing))):
            found.append((len(missing), missing, tree))
    return min(found)[1:] if found else None


class RepairsCase(unittest.TestCase):
    def assert_raises(self, error, attribute, given, call, *arguments):
        with self.assertRaises(error) as caught:
            call(*arguments)
        self.assertIs(type(caught.exception), error)
        self.assertIsInstance(caught.exception, BindError)
        self.assertEqual(getattr(caught.exception, attribute), given)
        self.assertEqual(caught.exception.code, error.__name__)

    def assert_repair(self, book, text, pairs, tree):
        found = repair(book, text)
        self.assertEqual(found, (pairs, tree))
        self.assertEqual((type(found), type(found[0])), (tuple, list))
        self.assertEqual((text_of(tree), lacks(book, tree)), (text, pairs))
        self.assertIsNone(book.with_ties(*pairs).unfit(tree))


class TestLacks(RepairsCase):
    def setUp(self):
        self.book = Book([Group("a"), Group("b"), Group("c"), Group("n", "prefix")],
                         [("_ * _", "a"), ("_ + _", "b"), ("_ < _", "c"), ("- _", "n"), ("[ _ ]", None)],
                         [("a", "b"), ("b", "c")])

    def test_told_one_by_one(self):
        for tree, pairs in (
            (X, []), (("_ + _", X, Y), []), (("_ + _", ("_ * _", X, Y), Z), []), (("_ < _", ("_ * _", X, Y), Z), []),
            (("_ * _", ("_ + _", X, Y), Z), [("b", "a")]), (("- _", ("_ + _", X, Y)), [("b", "n")]),
            (("_ * _", ("- _", ("_ + _", ("_ * _", X, Y), Z)), ("_ < _", X, Y)), [("b", "n"), ("c", "a"), ("n", "a")]),
            (("_ * _", ("[ _ ]", ("_ + _", X, Y)), ("round", ("- _", X))), []),
        ):
            self.assertEqual(lacks(self.book, tree), pairs)
            self.assertIs(type(lacks(self.book, tree)), list)
            self.assertEqual(lacks(tree=tree, book=self.book.with_ties()), pairs)

    def test_errors(self):
        whole = ("_ * _", ("- _", ("- _", X)), ("_ ? _", X, Y))
        for value in WRONG:
            self.assert_raises(InvalidTree, "path", (), lacks, self.book, value)
            self.assert_raises(InvalidTree, "path", (1, 1), lacks, self.book, with_part(whole, (1, 1), value))
        for tree, path in ((whole, (0, 0)), (("_ ? _", X, Y), ()), (("_ + _", ("_ + _", X, Y), Z), (0,)),
                           (("round", ("_ < _", X, ("_ ? _", X, Y))), (0, 1))):
            self.assert_raises(Unfit, "path", path, lacks, self.book, tree)

    def test_random_trees(self):
        chance = random.Random(1)
        seen = {"none": 0, "some": 0, "unfit": 0}
        for _ in range(100):
            groups, operators, ties = random_book(chance)
            book, other = made(groups, operators, ties), SlowBook(groups, operators, ties)
            for _ in range(10 if operators else 0):
                tree = tree_for(chance, other, chance.randint(1, 14))
                needs = slow_needs(other, tree)
                if isinstance(needs, tuple):
                    seen["unfit"] += 1
                    self.assert_raises(Unfit, "path", needs, lacks, book, tree)
                else:
                    expected = [pair for pair in needs if pair not in other.ties]
                    seen["some" if expected else "none"] += 1
                    self.assertEqual(lacks(book, tree), expected)
        self.assertGreater(min(seen.values()), 50)


class TestRepair(RepairsCase):
    def test_of_the_document(self):
        book = Book([Group("a"), Group("b")], [("_ * _", "a"), ("_ + _", "b")])
        self.assert_repair(book, "x + y * z", [("a", "b")], ("_ + _", X, ("_ * _", Y, Z)))

    def test_a_text_with_a_reading_lacks_nothing(self):
        book = Book.chained("*", "+")
        for text in ("a", "( a )", "a + b * c", "( a + b ) * ( ( c ) )"):
            self.assert_repair(book, text, [], readings(book, text)[0])
        self.assert_repair(Book([], []), "( ( x ) )", [], ("round", ("round", X)))

    def test_a_text_with_two_readings(self):
        """The least tree of those that lack nothing."""
        groups = [Group("a"), Group("c", "prefix"), Group("d", "postfix")]
        book = Book(groups, [("_ ! _", "a"), ("_ !", "d"), ("! _", "c")], [("c", "a"), ("d", "a")])
        self.assertEqual(how_many(book, "a ! ! a"), 2)
        self.assert_repair(book, "a ! ! a", [], readings(book, "a ! ! a")[0])
        self.assert_repair(book, "b ! ! a", [], ("_ ! _", ("_ !", B), A))

    def test_no_tree(self):
        book = Book([Group("a"), Group("n", "prefix"), Group("p", "postfix")],
                    [("_ + _", "a"), ("- _", "n"), ("_ !", "p"), ("[ _ , _ ]", None)], [("a", "n")])
        for text in ("+", "a b", "a + + b", "( a", "a )", "[ a ]", "a + b + c", "- - a", "a ! !", "[ a , b ] c", "( )",
                     "a # b", "- a + - - b"):
            self.assertIsNone(repair(book, text))

    def test_a_ring_with_the_ties_of_the_book(self):
        groups = [Group("a"), Group("b"), Group("c")]
        operators = [("_ * _", "a"), ("_ + _", "b"), ("_ < _", "c")]
        book = Book(groups, operators, [("a", "b")])
        self.assert_repair(book, "x + y * z", [], ("_ + _", X, ("_ * _", Y, Z)))
        # With a tighter than c, b may not be tied in between in the other direction.
        book = Book(groups, operators, [("b", "c"), ("c", "a")])
        self.assert_repair(book, "x * y + z", [], ("_ * _", X, ("_ + _", Y, Z)))
        side = Book([Group("p", "prefix"), Group("q", "postfix")], [("- _", "p"), ("_ !", "q")], [("p", "q")])
        self.assert_repair(side, "- x !", [], ("_ !", ("- _", X)))

    def test_a_ring_in_the_lacks(self):
        book = Book([Group("a"), Group("b")], [("_ * _", "a"), ("_ + _", "b")])
        self.assertIsNone(repair(book, "x + y * z + x * y"))
        self.assertIsNone(repair(book, "x * y * z"))
        self.assert_repair(book, "x + y * z + x", [("b", "a")], ("_ * _", ("_ + _", X, Y), ("_ + _", Z, X)))
        self.assert_repair(book, "x + ( y * z + x )", [("a", "b")],
                           ("_ + _", X, ("round", ("_ + _", ("_ * _", Y, Z), X))))
        left = Book([Group("a"), Group("b", side="left")], [("_ * _", "a"), ("_ + _", "b")])
        self.assert_repair(left, "x + y * z + x", [("a", "b")], ("_ + _", ("_ + _", X, ("_ * _", Y, Z)), X))

    def test_rings_of_three_names_and_more(self):
        """Where only prefix words stand ahead of an operand, there is but one tree."""
        groups = [Group(name, "prefix") for name in "abcd"]
        operators = [("! _", "a"), ("- _", "b"), ("+ _", "c"), ("* _", "d")]
        a, b, c, d = [lambda tree, head=head: (head, tree) for head, _ in operators]
        book = Book(groups, operators)
        self.assert_repair(book, "! + - x", [("b", "c"), ("c", "a")], a(c(b(X))))
        self.assertIsNone(repair(book.with_ties(("a", "b")), "! + - x"))
        self.assertIsNone(repair(book, "! + - ! x"))
        self.assertIsNone(repair(book, "! + - * ! x"))
        self.assert_repair(book, "! + - * x", [("b", "c"), ("c", "a"), ("d", "b")], a(c(b(d(X)))))
        self.assertIsNone(repair(book.with_ties(("a", "d")), "! + - * x"))
        self.assert_repair(book.with_ties(("d", "a")), "! + - * x", [("b", "c"), ("c", "a"), ("d", "b")],
                           a(c(b(d(X)))))
        self.assertIsNone(repair(book, "[ ! + x ]"))
        round_tree = a(c(("round", b(a(X)))))
        self.assert_repair(book, "! + ( - ! x )", [("a", "b"), ("c", "a")], round_tree)
        self.assertIsNone(repair(book.with_ties(("b", "c")), "! + ( - ! x )"))

    def test_a_ring_in_the_tree_with_the_fewest_lacks(self):
        chance = random.Random(4)
        names = "abcdef"
        groups = {name: ("prefix", "once") if name in "abc" else ("postfix", "once") for name in names}
        operators = {"! _": "a", "- _": "b", "+ _": "c", "_ *": "d", "_ /": "e", "_ ?": "f"}
        seen = {"none": 0, "some": 0, "whole": 0}
        for _ in range(80):
            order = chance.sample(names, 6)
            ties = [pair for pair in itertools.combinations(order, 2) if chance.random() < 0.25]
            before = chance.choices("!-+", k=chance.randint(1, 4))
            behind = chance.choices("*/?", k=chance.randint(1, 4))
            seen[self.check(groups, operators, ties, [*before, "x", *behind])] += 1
        self.assertGreater(min(seen["none"], seen["some"]), 10, seen)

    def test_the_least_lacks(self):
        groups, operators = [Group("a"), Group("b")], [("_ * _", "b"), ("_ + _", "a")]
        self.assert_repair(Book(groups, operators), "x + y * z", [("a", "b")], ("_ * _", ("_ + _", X, Y), Z))
        groups = [Group("p", "prefix"), Group("q", "postfix"), Group("a")]
        book = Book(groups, [("- _", "p"), ("_ !", "q"), ("_ + _", "a")])
        self.assert_repair(book, "- x !", [("p", "q")], ("_ !", ("- _", X)))
        self.assert_repair(book, "- x + y !", [("a", "p"), ("p", "q")], ("_ !", ("- _", ("_ + _", X, Y))))

    def test_fewer_lacks_count_ahead_of_lesser_ones(self):
        groups = [Group("a", "prefix"), Group("b", "postfix"), Group("z")]
        operators = [("- _", "a"), ("_ !", "b"), ("_ + _", "z")]
        for ties, text in (([("b", "z")], "- x + y !"), ([("a", "z")], "- x + y !"), ([("z", "a")], "- x + y !")):
            book = Book(groups, operators, ties)
            pairs, tree = repair(book, text)
            expected = slow_repair(SlowBook({"a": ("prefix", "once"), "b": ("postfix", "once"), "z": ("infix", "none")},
                                            dict(operators), ties), text.split(" "))
            self.assertEqual((pairs, tree), expected)
            self.assertEqual(len(pairs), 1)

    def test_the_least_tree(self):
        """Trees that lack the same: the text of the shape counts first, then the trees in it."""
        groups = [Group("i"), Group("p", "prefix"), Group("q", "postfix")]
        operators = [("_ + _", "i"), ("+ _", "p"), ("_ +", "q"), ("_ - _", "i"), ("- _", "p"), ("_ -", "q")]
        slow_groups = {"i": ("infix", "none"), "p": ("prefix", "once"), "q": ("postfix", "once")}
        for ties in ([], [("p", "i"), ("q", "i")], [("p", "i")]):
            for one, other in itertools.product("+-", repeat=2):
                text = f"x {one} {other} y"
                book = Book(groups, operators, ties)
                expected = slow_repair(SlowBook(slow_groups, dict(operators), ties), text.split(" "))
                self.assert_repair(book, text, *expected)

    def check(self, groups, operators, ties, words):
        book, other = made(groups, operators, ties), SlowBook(groups, operators, ties)
        expected = slow_repair(other, words)
        self.assertEqual(repair(book, " ".join(words)), expected)
        return "none" if expected is None else "some" if expected[0] else "whole"

    def test_random_texts(self):
        chance = random.Random(2)
        seen = {"none": 0, "some": 0, "whole": 0}
        for at in range(200):
            groups, operators, ties = random_book(chance) if at % 2 else sharing_book(chance)
            ties = [pair for pair in ties if chance.random() < 0.5]
            loose = SlowBook(groups, operators, itertools.permutations(groups, 2))
            for _ in range(8):
                words = random_words(chance, loose, 9)
                seen[self.check(groups, operators, ties, words)] += 1
        self.assertGreater(min(seen.values()), 50, seen)

    def test_texts_of_trees(self):
        """Texts that have a tree, whatever the ties are."""
        chance = random.Random(3)
        seen = {"none": 0, "some": 0, "whole": 0}
        for at in range(150):
            groups, operators, ties = random_book(chance) if at % 2 else sharing_book(chance)
            ties = [pair for pair in ties if chance.random() < 0.4]
            if not operators:
                continue
            for _ in range(4):
                text = text_of(tree_for(chance, SlowBook(groups, operators, ties), chance.randint(3, 14), 0))
                words = text.split(" ")
                if len(words) <= 11:
                    seen[self.check(groups, operators, ties, words)] += 1
        self.assertGreater(min(seen.values()), 30, seen)

    def test_shapes_of_many_words(self):
        groups = {"q": ("infix", "right"), "i": ("prefix", "once"), "g": ("postfix", "many"), "p": ("infix", "left")}
        operators = {"_ ? _ : _": "q", "if _ then _": "i", "_ [ _ , _ ]": "g", "{ _ | _ }": None, "_ + _": "p"}
        for text in ("a + b ? c : x + y", "if a then b ? c : x", "a ? if b then c : x", "{ a + b ? c : x | y }",
                     "a + b [ x , y ]", "a [ b + c ? x : y , z ]", "if a then b [ c , x ]", "if a then b + c ? x : y",
                     "a ? b ? x : y : c", "( if a then b ) + c", "a + if b then c", "a + if b then c + x"):
            for ties in ([], [("p", "q")], [("q", "p"), ("g", "i")], [("i", "g"), ("g", "p"), ("p", "q")]):
                self.check(groups, operators, ties, text.split(" "))

    def test_fourteen_words(self):
        book = Book([Group("a"), Group("b", side="left")], [("_ * _", "a"), ("_ + _", "b")])
        text = "x * y + x + x + ( x + y ) + z"
        self.assertEqual(len(text.split(" ")), 15)
        self.assert_raises(TooMany, "most", 14, repair, book, text)
        text = "x * y + x + x + ( x + y )"
        self.assertEqual(len(text.split(" ")), 13)
        self.assertEqual(repair(book, text)[0], [("a", "b")])
        for text in ("( " * 7 + "x" + " )" * 6, "( " * 6 + "x + y" + " )" * 5, "- " * 13 + "x"):
            self.assertEqual(len(text.split(" ")), 14)
            self.assertIsNone(repair(book, text))
        groups = [Group("n", "prefix", side="many"), Group("p", "postfix", side="many")]
        prefix = Book(groups, [("- _", "n"), ("_ !", "p")])
        tree = X
        for _ in range(13):
            tree = ("- _", tree)
        self.assert_repair(prefix, "- " * 13 + "x", [], tree)
        found = repair(prefix, "- " * 6 + "x" + " !" * 7)
        self.assertEqual(found[0], [("n", "p")])

    def test_the_most_trees(self):
        """Words of three kinds in groups of their own, with the text of fourteen words that has the most trees."""
        groups, operators = {}, {}
        names = iter(LETTERS)
        for word in "!+-*":
            for kind, shape in (("infix", "_ {} _"), ("prefix", "{} _"), ("postfix", "_ {}")):
                name = next(names)
                groups[name] = (kind, "none" if kind == "infix" else "once")
                operators[shape.format(word)] = name
        text = "! + x - * ! x + - * x ! + -"
        pairs = [("b", "i"), ("c", "f"), ("e", "b"), ("f", "g"), ("g", "b"), ("i", "j"), ("k", "c")]
        within = ("_ -", ("! _", ("_ - _", ("_ +", X), ("_ +", ("_ !", ("* _", X))))))
        tree = ("_ * _", ("_ -", ("! _", ("+ _", X))), within)
        self.assert_repair(made(groups, operators), text, pairs, tree)
        self.assertIsNone(repair(made(groups, operators, list(zip("abcdefghijk", "bcdefghijkl"))), text))
        for ties in ([], list(zip("abcdefghijk", "bcdefghijkl")), list(zip("lkjihgfedcb", "kjihgfedcba"))):
            self.check(groups, operators, ties, "+ x - * ! x + - * x !".split(" "))

    def test_errors(self):
        book = Book.chained("+")
        for text, at in NO_TEXTS:
            self.assert_raises(InvalidText, "at", at, repair, book, text)
        for many in (15, 16, 59, 60):
            for text in (" ".join(["a"] * many), " ".join(["("] * many), " ".join((["a", "+"] * many)[:many])):
                self.assertEqual(len(text.split(" ")), many)
                with self.assertRaises(TooMany) as caught:
                    repair(book, text)
                self.assertEqual((caught.exception.subject, caught.exception.most), ("words", 14))
                self.assertEqual(caught.exception.code, "TooMany")
        # A word that is none counts ahead of their number.
        self.assert_raises(InvalidText, "at", 20, repair, book, " ".join(["a"] * 20 + ["A"]))
        self.assert_raises(InvalidText, "at", 60, repair, book, " ".join(["a"] * 61))

    def test_by_name_and_new(self):
        book = Book([Group("a"), Group("b")], [("_ * _", "a"), ("_ + _", "b")])
        first = repair(text="x + y * z", book=book)
        first[0].clear()
        self.assertEqual(repair(book, "x + y * z")[0], [("a", "b")])
        self.assertEqual(book.ties.pairs(), [])

    def test_defined_here(self):
        for function in (lacks, repair):
            self.assertEqual(function.__module__, repairs.__name__)


if __name__ == "__main__":
    unittest.main()
