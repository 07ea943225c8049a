import itertools
import random
import unittest

from pairbinds import books
from pairbinds.books import Book
from pairbinds.errors import (
    BindError, DuplicateName, InvalidNumber, InvalidShape, InvalidTree, InvalidWord, Missing, Ring, Shared, TooMany,
    Unfit, UnknownName, WrongKind,
)
from pairbinds.shapes import Group, Shape
from pairbinds.ties import Ties
from slow import SIDES_OF, SlowBook, closed, random_book
from test_trees import WRONG, part_at, random_tree, slow_parts, with_part
from values import OTHERS, made

A, B, C = ("word", "a"), ("word", "b"), ("word", "c")
LETTERS = "abcdefghijklm"
# Two-letter words, as many as a book can need.
MANY_WORDS = [one + other for one in "abcdefghijk" for other in "abcdefghijk"]


def both_of(groups, operators, ties=()):
    """A book, and the slow one that is the same."""
    return made(groups, operators, ties), SlowBook(groups, operators, ties)


def tree_for(chance, slow, parts, strange=0.03):
    """A tree of shapes of a book, with now and then a part that is not of the book."""
    if chance.random() < strange:
        word = chance.choice([*slow.words, "q"])
        return chance.choice([("round", A), ("_ ## _", A, B), ("## _", A), ("[[ _ ]]", B),
                              ("word", word) if word.isalpha() else A])
    if parts <= 1:
        return ("word", chance.choice("xyz"))
    if chance.random() < 0.15:
        return ("round", tree_for(chance, slow, parts - 1, strange))
    shape = chance.choice(list(slow.operators))
    holes = shape.count("_")
    return (shape, *[tree_for(chance, slow, (parts - 1) // holes, strange) for _ in range(holes)])


def foreign(slow, part):
    if part[0] == "word":
        return part[1] in slow.words
    return part[0] != "round" and part[0] not in slow.operators


def slow_unfit(slow, tree):
    for path, part in slow_parts(tree):
        if foreign(slow, part):
            return path
        if path and not slow.may_stand(part[0], part_at(tree, path[:-1])[0], path[-1]):
            return path
    return None


def slow_needs(slow, tree):
    """The needs of a tree, or the path of the first part that cannot fit."""
    needs = set()
    everything = SlowBook(slow.groups, slow.operators, itertools.permutations(slow.groups, 2))
    nothing = SlowBook(slow.groups, slow.operators, ())
    for path, part in slow_parts(tree):
        around = part_at(tree, path[:-1])[0] if path else "round"
        if foreign(slow, part) or path and not everything.may_stand(part[0], around, path[-1]):
            return path
        if path and not nothing.may_stand(part[0], around, path[-1]):
            needs.add((slow.operators[part[0]], slow.operators[around]))
    return sorted(needs)


class BooksCase(unittest.TestCase):
    def assert_raises(self, error, attribute, given, call, *arguments, **named):
        with self.assertRaises(error) as caught:
            call(*arguments, **named)
        self.assertIs(type(caught.exception), error)
        self.assertEqual(getattr(caught.exception, attribute), given)
        self.assertIs(type(getattr(caught.exception, attribute)), type(given))
        self.assertEqual(caught.exception.code, error.__name__)
        self.assertIsInstance(caught.exception, Missing if error is UnknownName else BindError)

    def assert_ring(self, pairs, call, *arguments):
        with self.assertRaises(Ring) as caught:
            call(*arguments)
        ring = caught.exception.ring
        self.assertEqual(len(set(ring)), len(ring))
        for pair in zip(ring, ring[1:] + ring[:1]):
            self.assertIn(pair, pairs)


class TestBook(BooksCase):
    def setUp(self):
        self.groups = [Group("sum", side="left"), Group("neg", "prefix"), Group("fac", "postfix", side="many")]
        self.operators = [("_ + _", "sum"), ("- _", "neg"), ("_ !", "fac"), ("[ _ , _ ]", None), ("_ - _", "sum")]
        self.ties = [("fac", "neg"), ("neg", "sum")]
        self.book = Book(self.groups, self.operators, self.ties)

    def test_what_it_tells(self):
        self.assertEqual(self.book.groups(), [self.groups[2], self.groups[1], self.groups[0]])
        self.assertEqual(self.book.operators(), [("- _", "neg"), ("[ _ , _ ]", None), ("_ !", "fac"), ("_ + _", "sum"),
                                                 ("_ - _", "sum")])
        self.assertEqual(self.book.ties, Ties(["sum", "neg", "fac"], self.ties))
        self.assertEqual(self.book.ties.pairs(), [("fac", "neg"), ("fac", "sum"), ("neg", "sum")])
        self.assertIs(type(self.book.ties), Ties)
        self.assertEqual((len(self.book), repr(self.book)), (5, "Book(5 operators)"))

    def test_without_anything(self):
        book = Book([], [])
        self.assertEqual((book.groups(), book.operators(), book.ties), ([], [], Ties([])))
        self.assertEqual((len(book), repr(book)), (0, "Book(0 operators)"))
        self.assertIs(book.is_operand("a"), True)
        self.assertIsNone(book.unfit(A))
        self.assertEqual(book.needs(("round", A)), [])

    def test_class_values(self):
        self.assertEqual((Book.MOST_GROUPS, Book.MOST_OPERATORS), (12, 30))
        self.assertEqual((self.book.MOST_GROUPS, self.book.MOST_OPERATORS), (12, 30))
        self.assertLessEqual({"MOST_GROUPS", "MOST_OPERATORS"}, set(vars(Book)))

    def test_tuples_lists_and_names(self):
        operators = tuple(list(pair) for pair in self.operators)
        book = Book(ties=tuple(list(pair) for pair in self.ties), operators=operators, groups=tuple(self.groups))
        self.assertEqual(book, self.book)
        self.assertTrue(all(type(pair) is tuple for pair in book.operators()))

    def test_arguments_are_copied_and_not_changed(self):
        groups, operators, ties = list(self.groups), [list(pair) for pair in self.operators], [["fac", "neg"]]
        book = Book(groups, operators, ties)
        self.assertEqual((groups, [tuple(pair) for pair in operators], ties),
                         (self.groups, self.operators, [["fac", "neg"]]))
        groups.clear()
        operators[0][0] = "_ * _"
        operators.pop()
        ties[0].reverse()
        self.assertEqual(book, Book(self.groups, self.operators, [("fac", "neg")]))

    def test_returned_lists_are_new(self):
        for call in (self.book.groups, self.book.operators):
            first = call()
            self.assertIs(type(first), list)
            first.clear()
            self.assertNotEqual(call(), [])
        self.assertEqual(self.book, Book(self.groups, self.operators, self.ties))

    def test_group_of(self):
        for text, name in self.operators:
            self.assertEqual(self.book.group_of(text), name)
        self.assertEqual(self.book.group_of(shape="_ + _"), "sum")
        for value in OTHERS + ("_ * _", "+", "_ +", "sum", "_ + _ ", Shape("_ + _"), ("_ + _", "sum"), ["_ + _"]):
            self.assert_raises(UnknownName, "name", value, self.book.group_of, value)

    def test_is_operand(self):
        book = Book([Group("a")], [("_ mod _", "a"), ("if _ then _ fi", None), ("_ + _", "a")])
        for value in ("a", "x", "abcdefgh", "word", "round", "mo", "mods", "iff"):
            self.assertIs(book.is_operand(value), True)
        self.assertIs(book.is_operand(value="a"), True)
        for value in OTHERS + ("mod", "if", "then", "fi", "+", "-", "_", "abcdefghi", "A", "x y", ("word", "x")):
            self.assertIs(book.is_operand(value), False)

    def test_by_position_only_what_may_be(self):
        self.assertEqual(Book(self.groups, self.operators).ties, Ties(["sum", "neg", "fac"]))

    def test_methods_are_defined_in_the_class(self):
        self.assertEqual(Book.__module__, books.__name__)
        for name in ("__init__", "chained", "groups", "operators", "ties", "group_of", "is_operand", "may_stand",
                     "unfit", "needs", "with_ties", "__or__", "__eq__", "__len__", "__repr__"):
            self.assertIn(name, vars(Book))
        self.assertIsInstance(vars(Book)["chained"], classmethod)
        self.assertIsInstance(vars(Book)["ties"], property)


class TestErrors(BooksCase):
    def many_groups(self, many):
        return [Group(letter) for letter in LETTERS[:many]]

    def many_operators(self, many):
        return [("_ " + word + " _", "a") for word in MANY_WORDS[:many]]

    def assert_too_many(self, subject, most, *arguments):
        with self.assertRaises(TooMany) as caught:
            Book(*arguments)
        self.assertEqual((caught.exception.subject, caught.exception.most), (subject, most))

    def test_twelve_and_thirteen_groups(self):
        self.assertEqual(len(Book(self.many_groups(12), []).groups()), 12)
        wrong = self.many_operators(31) + [(None, None)]
        for groups in (self.many_groups(13), tuple(self.many_groups(13)), [Group("a")] * 13):
            self.assert_too_many("groups", 12, groups, [])
            self.assert_too_many("groups", 12, groups, wrong, [("y", "z")])

    def test_groups_with_one_name(self):
        one, other = Group("a"), Group("a", "prefix")
        wrong = self.many_operators(31)
        self.assert_raises(DuplicateName, "name", "a", Book, [one, one], wrong, [("y", "z")])
        self.assert_raises(DuplicateName, "name", "a", Book, [one, other], [(None, None)])
        self.assert_raises(DuplicateName, "name", "b", Book, [one, Group("b"), Group("b"), other], [])
        self.assert_raises(DuplicateName, "name", "a", Book, [one, Group("b"), other, Group("b")], [])

    def test_thirty_and_thirty_one_operators(self):
        book = Book(self.many_groups(1), self.many_operators(30))
        self.assertEqual((len(book), repr(book)), (30, "Book(30 operators)"))
        for operators in (self.many_operators(31), tuple(self.many_operators(31)), [("_ + _", "a")] * 31,
                          [(None, "z")] * 31):
            self.assert_too_many("operators", 30, self.many_groups(1), operators)
            self.assert_too_many("operators", 30, self.many_groups(12), operators, [("y", "z")])

    def test_the_most_words(self):
        words = iter(MANY_WORDS)
        operators = [(" _ ".join(next(words) for _ in range(4)), None) for _ in range(30)]
        book = Book([], operators)
        self.assertEqual((len(book), book.is_operand("aa"), book.is_operand("kk")), (30, False, True))

    def test_wrong_shapes(self):
        groups = [Group("a"), Group("b")]
        for value in OTHERS + ("_", "+", "_ + _ + _", "_ _", "_ ( _", Shape("_ + _"), ("_ + _", "a"), ["_ + _"]):
            self.assert_raises(InvalidShape, "given", value, Book, groups, [("_ * _", "a"), (value, "z")])
            self.assert_raises(InvalidShape, "given", value, Book, groups, [(value, None), (None, "a")], [("y", "z")])

    def test_a_shape_given_twice(self):
        groups = [Group("a"), Group("b", "prefix")]
        for name in ("a", "b", "z", None):
            self.assert_raises(DuplicateName, "name", "_ + _", Book, groups,
                               [("_ + _", "a"), ("- _", "b"), ("_ + _", name), ("_", None)], [("y", "z")])
        self.assert_raises(DuplicateName, "name", "[ _ ]", Book, [], [("[ _ ]", None), ("[ _ ]", None)])

    def test_unknown_groups(self):
        groups = [Group("a"), Group("b", "prefix")]
        for value in OTHERS + ("c", "+", "ab", Group("a"), ("a",), ["a"]):
            if value is None:
                continue
            for shape in ("_ + _", "+ _", "_ +", "[ _ ]"):
                self.assert_raises(UnknownName, "name", value, Book, groups, [(shape, value), (None, None)])
                self.assert_raises(UnknownName, "name", value, Book, [], [(shape, value)], [("y", "z")])

    def test_groups_of_another_kind(self):
        groups = [Group("i"), Group("p", "prefix"), Group("q", "postfix")]
        kinds = {"_ + _": "i", "_ ? _ : _": "i", "+ _": "p", "if _ then _": "p", "_ +": "q", "_ [ _ ]": "q",
                 "{ _ }": None, "{ _ , _ }": None}
        for shape, right in kinds.items():
            for name in ("i", "p", "q", None):
                if name == right:
                    self.assertEqual(Book(groups, [(shape, name)]).group_of(shape), name)
                else:
                    self.assert_raises(WrongKind, "name", name, Book, groups, [(shape, name), (None, "z")])
                    self.assert_raises(WrongKind, "name", name, Book, groups, [(shape, name), (shape, right)],
                                       [("y", "z")])

    def test_operator_by_operator(self):
        groups = [Group("a")]
        bad = [(None, "z"), ("_ + _", "z"), ("+ _", "a"), ("_ * _", "a")]
        errors = [InvalidShape, UnknownName, WrongKind, DuplicateName]
        for order in itertools.permutations(range(4)):
            with self.assertRaises(errors[order[0]]):
                Book(groups, [("_ * _", "a")] + [bad[at] for at in order])
            # Words that are shared count behind all of these.
            with self.assertRaises(errors[order[0]]):
                Book(groups, [("_ * _", "a"), ("_ * _ / _", "a")] + [bad[at] for at in order])

    def test_shared_words(self):
        groups = [Group("i"), Group("j"), Group("p", "prefix"), Group("q", "postfix")]
        places = {"infix": "i", "prefix": "p", "postfix": "q", "closed": None}
        shapes = ("_ + _", "+ _", "_ +", "_ + _ - _", "_ - _ + _", "+ _ -", "- _ +", "- _ + _", "_ - _ +", "_ - _",
                  "- _", "_ * _", "[ _ ]", "[ _ + _ ]", "_ [ _ ]", "_ ]")
        for texts in itertools.permutations(shapes, 2):
            operators = [(text, places[Shape(text).kind]) for text in texts]
            one, other = Shape(texts[0]), Shape(texts[1])
            both = [word for word in other.words if word in one]
            if both and not (one.is_plain and other.is_plain):
                self.assert_raises(Shared, "word", both[0], Book, groups, operators)
                # This counts ahead of the ties.
                self.assert_raises(Shared, "word", both[0], Book, groups, operators, [("y", "z"), ("i", "i")])
            else:
                self.assertEqual(len(Book(groups, operators)), 2)

    def test_plain_shapes_of_three_kinds_share_a_word(self):
        groups = [Group("i"), Group("p", "prefix"), Group("q", "postfix")]
        plain = [("_ + _", "i"), ("+ _", "p"), ("_ +", "q")]
        for operators in itertools.permutations(plain):
            self.assertEqual(len(Book(groups, operators)), 3)
            self.assert_raises(Shared, "word", "+", Book, groups, list(operators) + [("_ ? _ + _", "i")])
            self.assert_raises(Shared, "word", "+", Book, groups, [("_ ? _ + _", "i")] + list(operators))

    def test_the_first_shared_word_counts(self):
        groups = [Group("i"), Group("j")]
        ahead = [("_ a _ b _ c _", "i"), ("_ d _", "i")]
        self.assert_raises(Shared, "word", "c", Book, groups, ahead + [("_ x _ c _ a _", "j"), ("_ b _", "j")])
        self.assert_raises(Shared, "word", "b", Book, groups, ahead + [("_ b _", "j"), ("_ x _ c _ a _", "j")])
        self.assert_raises(Shared, "word", "d", Book, groups, ahead + [("_ x _ d _ a _", "j")])

    def test_ties_of_other_names_and_rings(self):
        groups = [Group("a"), Group("b"), Group("c")]
        self.assert_raises(UnknownName, "name", "z", Book, groups, [], [("a", "a"), ("b", "z"), ("y", "b")])
        self.assert_raises(UnknownName, "name", "y", Book, groups, [("_ + _", "a")], [["y", "z"]])
        for many in range(1, 4):
            for order in itertools.permutations("abc", many):
                pairs = list(zip(order, order[1:] + order[:1]))
                self.assert_ring(pairs, Book, groups, [("_ + _", "a")], pairs)
                self.assert_ring(pairs, Book, groups, [], [list(pair) for pair in pairs])


class TestChained(BooksCase):
    def test_chains(self):
        book = Book.chained("*", "+")
        self.assertEqual(book.groups(), [Group("a", side="left"), Group("b", side="left")])
        self.assertEqual(book.operators(), [("_ * _", "a"), ("_ + _", "b")])
        self.assertEqual(book.ties, Ties(["a", "b"], [("a", "b")]))
        self.assertEqual(Book.chained(), Book([], []))
        self.assertEqual(Book.chained("mod"), Book([Group("a", side="left")], [("_ mod _", "a")]))
        self.assertIs(type(book), Book)

    def test_twelve_words(self):
        words = MANY_WORDS[:12]
        book = Book.chained(*words)
        self.assertEqual([group.text for group in book.groups()], [letter + " infix left" for letter in LETTERS[:12]])
        self.assertEqual(book.operators(), [("_ " + word + " _", letter) for word, letter in zip(words, LETTERS)])
        self.assertEqual(book.ties.needed(), list(zip(LETTERS[:11], LETTERS[1:12])))
        self.assertEqual(len(book.ties), 66)

    def test_errors(self):
        for value in OTHERS + ("_", "_ + _", "a b", "++++"):
            self.assert_raises(InvalidWord, "given", value, Book.chained, value)
            self.assert_raises(InvalidWord, "given", value, Book.chained, "+", "+", value, None)
            self.assert_raises(InvalidWord, "given", value, Book.chained, *["+"] * 13, value)
        for many in (13, 26, 27, 100):
            for words in (MANY_WORDS[:many], ["+"] * many):
                with self.assertRaises(TooMany) as caught:
                    Book.chained(*words)
                self.assertEqual((caught.exception.subject, caught.exception.most), ("groups", 12))
        self.assert_raises(DuplicateName, "name", "_ + _", Book.chained, "*", "+", "+", "*")
        self.assert_raises(DuplicateName, "name", "_ + _", Book.chained, "+", "+")


class TestMayStand(BooksCase):
    def test_each_hole_of_each_shape(self):
        """Groups of each kind and side with shapes of one to four words, tied in both ways and not at all."""
        groups = {"o": ("infix", "left")}
        operators = {"_ == _": "o", "[ _ ]": None, "{ _ | _ }": None, "<< _ < _ > _ >>": None}
        words = iter(MANY_WORDS)
        names = iter(LETTERS)
        for kind, sides in SIDES_OF.items():
            for side in sides:
                name = next(names)
                groups[name] = (kind, side)
                for many in range(1, 5):
                    text = " _ ".join(next(words) for _ in range(many))
                    operators["_ " * (kind != "prefix") + text + " _" * (kind != "postfix")] = name
        others = [name for name in groups if name != "o"]
        for ties in ([], [("o", name) for name in others], [(name, "o") for name in others],
                     list(zip(others, others[1:]))):
            # The thirty operators are too few for all of them at once.
            for left_out in ("a", "g"):
                some = {text: name for text, name in operators.items() if name != left_out}
                book, slow = both_of(groups, some, ties)
                for child, shape in itertools.product(some, some):
                    for hole in range(shape.split(" ").count("_")):
                        self.assertIs(book.may_stand(child, shape, hole), slow.may_stand(child, shape, hole))

    def test_told_one_by_one(self):
        for kind, child, shape, rights in (
            ("infix", "_ + _", "_ - _", {"left": (0,), "right": (1,), "none": ()}),
            ("infix", "_ + _", "_ ? _ : _", {"left": (0, 1), "right": (1, 2), "none": (1,)}),
            ("infix", "_ + _", "_ + _", {"left": (0,), "right": (1,), "none": ()}),
            ("prefix", "- _", "! _", {"many": (0,), "once": ()}),
            ("prefix", "- _", "if _ then _", {"many": (0, 1), "once": (0,)}),
            ("postfix", "_ -", "_ !", {"many": (0,), "once": ()}),
            ("postfix", "_ -", "_ [ _ , _ ]", {"many": (0, 1, 2), "once": (1, 2)}),
        ):
            for side, holes in rights.items():
                book = Book([Group("a", kind, side=side)], [(child, "a"), (shape, "a")][:2 - (child == shape)])
                for hole in range(Shape(shape).holes):
                    self.assertIs(book.may_stand(child, shape, hole), hole in holes)

    def test_groups_without_ties(self):
        book = Book([Group("a", side="left"), Group("b", side="left")], [("_ * _", "a"), ("_ + _", "b")])
        self.assertEqual([book.may_stand("_ * _", "_ + _", hole) for hole in (0, 1)], [False, False])
        book = book.with_ties(("a", "b"))
        self.assertEqual([book.may_stand("_ * _", "_ + _", hole) for hole in (0, 1)], [True, True])
        self.assertEqual([book.may_stand("_ + _", "_ * _", hole) for hole in (0, 1)], [False, False])

    def test_wrong_arguments(self):
        book = Book([Group("a")], [("_ + _", "a"), ("[ _ ]", None)])
        for value in OTHERS + ("_ * _", "+", "a", ("word", "x"), Shape("_ + _")):
            self.assert_raises(UnknownName, "name", value, book.may_stand, value, None, None)
            self.assert_raises(UnknownName, "name", value, book.may_stand, "_ + _", value, None)
        for value in OTHERS + (-1, 2, 3, True, False, "0", (0,), [0]):
            if type(value) is int and value in (0, 1):
                continue
            self.assert_raises(InvalidNumber, "given", value, book.may_stand, "[ _ ]", "_ + _", value)
        self.assert_raises(InvalidNumber, "given", 1, book.may_stand, "_ + _", "[ _ ]", 1)
        self.assertIs(book.may_stand(hole=0, shape="[ _ ]", child="_ + _"), True)


class TestFitting(BooksCase):
    def setUp(self):
        self.book = Book(
            [Group("sum", side="left"), Group("pow", side="right"), Group("neg", "prefix"), Group("fac", "postfix")],
            [("_ + _", "sum"), ("_ ^ _", "pow"), ("- _", "neg"), ("_ !", "fac"), ("[ _ , _ ]", None),
             ("_ mod _", "sum")],
            [("pow", "neg"), ("neg", "sum")],
        )

    def test_unfit(self):
        heads = ("_ + _", "_ ^ _", "- _", "_ !")
        plus, power, minus, fact = [lambda *trees, head=head: (head, *trees) for head in heads]
        for tree, path in (
            (A, None), (("word", "mod"), ()), (plus(A, B), None), (plus(plus(A, B), C), None),
            (plus(A, plus(B, C)), (1,)), (plus(A, ("round", plus(B, C))), None), (power(A, power(B, C)), None),
            (power(power(A, B), C), (0,)), (plus(minus(A), power(A, B)), None), (power(minus(A), B), (0,)),
            (minus(power(A, B)), None), (minus(minus(A)), (0,)), (minus(plus(A, B)), (0,)), (fact(fact(A)), (0,)),
            (minus(fact(A)), (0,)), (fact(minus(A)), (0,)), (("[ _ , _ ]", fact(fact(A)), plus(A, B)), (0, 0)),
            (("_ * _", A, B), ()), (plus(("_ * _", A, B), plus(A, B)), (0,)), (plus(A, ("word", "mod")), (1,)),
            (("round", ("round", ("word", "mod"))), (0, 0)), (("round", plus(plus(A, B), plus(A, B))), (0, 1)),
            (plus(("[ _ , _ ]", A, B), ("[ _ , _ ]", A, B)), None),
        ):
            self.assertEqual(self.book.unfit(tree), path)

    def test_needs(self):
        for tree, needs in (
            (A, []), (("_ + _", A, B), []), (("_ + _", ("_ + _", A, B), C), []),
            (("_ + _", ("_ ^ _", A, B), ("_ !", A)), [("fac", "sum"), ("pow", "sum")]),
            (("_ ^ _", ("_ + _", A, B), C), [("sum", "pow")]),
            (("_ + _", ("- _", ("_ !", A)), ("_ !", A)), [("fac", "neg"), ("fac", "sum"), ("neg", "sum")]),
            (("[ _ , _ ]", ("_ + _", A, B), ("- _", A)), []), (("_ + _", ("round", ("_ ^ _", A, B)), B), []),
            (("- _", ("_ + _", ("- _", A), ("- _", A))), [("neg", "sum"), ("sum", "neg")]),
        ):
            self.assertEqual(self.book.needs(tree), needs)
        for tree, path in (
            (("_ + _", A, ("_ mod _", B, C)), (1,)), (("- _", ("- _", A)), (0,)), (("word", "mod"), ()),
            (("_ + _", ("_ ^ _", ("_ ^ _", A, B), B), ("_ * _", A, B)), (0, 0)), (("_ * _", A, B), ()),
            (("_ + _", ("word", "mod"), ("_ + _", A, B)), (0,)), (("[ _ , _ ]", ("_ !", ("_ !", A)), A), (0, 0)),
        ):
            self.assert_raises(Unfit, "path", path, self.book.needs, tree)
        self.assertEqual(self.book.needs(tree=A), [])
        self.assertIsNone(self.book.unfit(tree=A))

    def test_random_books_and_trees(self):
        chance = random.Random(1)
        seen = {}
        for _ in range(150):
            book, slow = both_of(*random_book(chance))
            if not slow.operators:
                continue
            for _ in range(20):
                tree = tree_for(chance, slow, chance.randint(1, 14))
                found = book.unfit(tree)
                self.assertEqual(found, slow_unfit(slow, tree))
                self.assertIn(type(found), (tuple, type(None)))
                expected = slow_needs(slow, tree)
                seen[type(expected), bool(expected)] = seen.get((type(expected), bool(expected)), 0) + 1
                if isinstance(expected, tuple):
                    self.assert_raises(Unfit, "path", expected, book.needs, tree)
                else:
                    self.assertEqual(book.needs(tree), expected)
                    # It fits exactly if the ties have all its needs.
                    self.assertIs(found is None, set(expected) <= closed(slow.ties))
        self.assertGreater(min(seen.values()), 20)

    def test_needs_do_not_depend_on_the_ties(self):
        book = Book([Group("a"), Group("b")], [("_ * _", "a"), ("_ + _", "b")])
        tree = ("_ + _", ("_ * _", A, B), C)
        for ties in ([], [("a", "b")], [("b", "a")]):
            self.assertEqual(book.with_ties(*ties).needs(tree), [("a", "b")])
        first = book.needs(tree)
        first.append(None)
        self.assertEqual(book.needs(tree), [("a", "b")])

    def test_what_is_no_tree(self):
        whole = ("_ + _", ("- _", A), ("_ * _", ("word", "mod"), B))
        for value in WRONG:
            for call in (self.book.unfit, self.book.needs):
                self.assert_raises(InvalidTree, "path", (), call, value)
                # This counts ahead of the parts that do not fit.
                self.assert_raises(InvalidTree, "path", (1, 1), call, with_part(whole, (1, 1), value))

    def test_trees_nested_60_deep_and_with_200_parts(self):
        deep = A
        for at in range(59):
            deep = ("_ + _", deep, B) if at % 3 else ("round", deep)
        self.assertIsNone(self.book.unfit(deep))
        self.assertEqual(self.book.needs(deep), [])
        wide = random_tree(random.Random(2), 200)
        self.assertEqual(Book([], []).unfit(wide), () if wide[0] != "round" else (0,))
        wrong = A
        for _ in range(59):
            wrong = ("- _", wrong)
        self.assertEqual(self.book.unfit(wrong), (0,))


class TestMore(BooksCase):
    def test_with_ties(self):
        book = Book([Group("a"), Group("b"), Group("c")], [("_ * _", "a")], [("a", "b")])
        more = book.with_ties(("b", "c"))
        self.assertEqual(more, Book([Group("a"), Group("b"), Group("c")], [("_ * _", "a")], [("a", "b"), ("b", "c")]))
        self.assertEqual(more.ties.pairs(), [("a", "b"), ("a", "c"), ("b", "c")])
        self.assertEqual(book.ties.pairs(), [("a", "b")])
        self.assertEqual(book.with_ties(), book)
        self.assertEqual(book.with_ties(["b", "c"], ("a", "b")), more)
        self.assert_raises(UnknownName, "name", "z", book.with_ties, ("b", "a"), ("b", "z"), ("y", "a"))
        self.assert_ring([("a", "b"), ("b", "a")], book.with_ties, ("b", "a"))
        self.assert_ring([("a", "b"), ("b", "c"), ("c", "a")], more.with_ties, ["c", "a"])
        self.assert_ring([("a", "a")], book.with_ties, ("a", "a"))

    def test_both_books(self):
        a, b, c = Group("a"), Group("b", "prefix"), Group("c", "postfix")
        one = Book([a, b], [("_ + _", "a"), ("- _", "b"), ("[ _ ]", None)], [("b", "a")])
        other = Book([c, a], [("_ !", "c"), ("_ + _", "a"), ("[ _ ]", None), ("{ _ }", None)], [("a", "c")])
        both = one | other
        self.assertIs(type(both), Book)
        self.assertEqual(both, Book([a, b, c], [("_ + _", "a"), ("- _", "b"), ("_ !", "c"), ("[ _ ]", None),
                                                ("{ _ }", None)], [("b", "a"), ("a", "c")]))
        self.assertEqual(both.ties.pairs(), [("a", "c"), ("b", "a"), ("b", "c")])
        self.assertEqual(other | one, both)
        self.assertEqual((one | one, one | Book([], []), Book([], []) | one), (one, one, one))
        self.assertEqual((len(one), len(other), len(one.ties)), (3, 4, 1))

    def test_equal_ones_count_once(self):
        groups = [Group(letter) for letter in LETTERS[:12]]
        operators = [("_ " + word + " _", "a") for word in MANY_WORDS[:30]]
        book = Book(groups, operators, [("a", "b")])
        self.assertEqual(book | book, book)
        self.assertEqual(book | Book(groups[:3], operators[:3]), book)

    def test_errors_of_both(self):
        groups = [Group(letter) for letter in LETTERS]
        operators = [("_ " + word + " _", "a") for word in MANY_WORDS[:31]]

        def join(one, other):
            return one | other

        def assert_too_many(subject, most, one, other):
            with self.assertRaises(TooMany) as caught:
                join(one, other)
            self.assertEqual((caught.exception.subject, caught.exception.most), (subject, most))

        full = Book(groups[:12], operators[:30])
        assert_too_many("groups", 12, full, Book([groups[12]], []))
        # More groups count ahead of one name for two groups, and this ahead of more operators.
        assert_too_many("groups", 12, full, Book([Group("a", "prefix")], []))
        self.assert_raises(DuplicateName, "name", "a", join, Book(groups[:2], operators[:30]),
                           Book([Group("b", side="left"), Group("a", side="left")], operators[30:]))
        assert_too_many("operators", 30, full, Book(groups[:1], operators[30:]))
        assert_too_many("operators", 30, full, Book(groups[:2], [(operators[0][0], "b")]))
        one = Book(groups[:2], [("_ + _", "a"), ("_ * _", "a")], [("a", "b")])
        self.assert_raises(DuplicateName, "name", "_ * _", join, one,
                           Book(groups[:2], [("_ + _", "a"), ("_ * _", "b")], [("b", "a")]))
        self.assert_raises(Shared, "word", "+", join, one, Book(groups[:2], [("_ ? _ + _", "b")], [("b", "a")]))
        self.assert_raises(Shared, "word", "*", join, one, Book([], [("* _ +", None)]))
        self.assert_ring([("a", "b"), ("b", "a")], join, one, Book(groups[:2], [], [("b", "a")]))
        self.assert_ring([("a", "b"), ("b", "c"), ("c", "a")], join, one,
                         Book(groups[:3], [], [("b", "c"), ("c", "a")]))

    def test_the_same_group_with_another_side(self):
        one, other = Book([Group("a", side="left")], []), Book([Group("a", side="right")], [])
        self.assert_raises(DuplicateName, "name", "a", lambda: one | other)
        self.assertIs(one == other, False)

    def test_equality(self):
        groups = [Group("a"), Group("b")]
        book = Book(groups, [("_ + _", "a"), ("_ * _", "b")], [("a", "b")])
        self.assertIs(book == Book(groups[::-1], [("_ * _", "b"), ("_ + _", "a")], [["a", "b"]]), True)
        for other in (
            Book(groups, [("_ + _", "a"), ("_ * _", "b")]),
            Book(groups, [("_ + _", "a"), ("_ * _", "a")], [("a", "b")]),
            Book(groups, [("_ + _", "a")], [("a", "b")]), Book(groups + [Group("c")], book.operators(), [("a", "b")]),
            Book([groups[0], Group("b", side="left")], book.operators(), [("a", "b")]),
            Book(groups, book.operators(), [("b", "a")]), Book([], []),
        ):
            self.assertIs(book == other, False)
            self.assertIs(book != other, True)
        for value in OTHERS + (book.operators(), book.groups(), book.ties, repr(book), Shape("_ + _")):
            self.assertIs(book == value, False)
            self.assertIs(value == book, False)

    def test_random_books(self):
        chance = random.Random(3)
        for _ in range(100):
            groups, operators, ties = random_book(chance, 12, 20, "+*-!?:[],.;<>=@#&")
            book = made(groups, operators, ties)
            self.assertEqual([group.name for group in book.groups()], sorted(groups))
            self.assertEqual(book.operators(), sorted(operators.items(), key=lambda pair: pair[0]))
            self.assertEqual(book.ties.pairs(), sorted(closed(ties)))
            self.assertEqual(book, Book(book.groups(), book.operators(), book.ties.needed()))


if __name__ == "__main__":
    unittest.main()
