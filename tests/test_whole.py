"""The program as a whole: other names, books at their bounds, long texts, and modules that work together."""

import inspect
import itertools
import random
import unittest

from pairbinds import (
    books, desk, errors, library, pages, partings, reading, repairs, shapes, ties, trees, wishes, words, writing,
)
from pairbinds.books import Book
from pairbinds.desk import Desk
from pairbinds.library import Library
from pairbinds.pages import read_page, write_page
from pairbinds.partings import least_operand, parting, two_readings
from pairbinds.reading import how_many, read, readings, stuck
from pairbinds.repairs import lacks, repair
from pairbinds.shapes import Group
from pairbinds.trees import full_text, text_of
from pairbinds.wishes import Broken, Ringed, Settled, Wishes
from pairbinds.writing import columns, rounded, written
from slow import SlowBook, random_book
from test_reading import fitting_tree, random_words, sharing_book
from test_writing import book_tree
from values import made

LETTERS = "abcdefghijklmnopqrstuvwxyz"
SIGNS = "!#&*+,-./:;<=>?@[]^{|}"


class Naming:
    """Other names in the places of those of groups, words and operands."""

    def __init__(self, chance, groups, operators):
        old_words = sorted({word for text in operators for word in text.split(" ") if word != "_"} | set("wxyz"))
        # Operands stay letter words, and brackets and holes stay what they are.
        new_words = chance.sample([one + other for one in "bcdefg" for other in LETTERS], len(old_words))
        self.words = dict(zip(old_words, new_words))
        names = chance.sample([one + other for one in "qrs" for other in LETTERS], len(groups))
        self.names = dict(zip(groups, names))
        self.groups = {self.names[name]: kind for name, kind in groups.items()}
        self.operators = {self.text(text): self.names.get(name) for text, name in operators.items()}

    def text(self, text):
        return " ".join(self.words.get(word, word) for word in text.split(" "))

    def tree(self, tree):
        if tree[0] == "word":
            return ("word", self.words.get(tree[1], tree[1]))
        head = "round" if tree[0] == "round" else self.text(tree[0])
        return (head, *[self.tree(part) for part in tree[1:]])

    def pairs(self, pairs):
        return [tuple(self.names[name] for name in pair) for pair in pairs]


class TestOtherNames(unittest.TestCase):
    def test_they_change_nothing_else(self):
        chance = random.Random(1)
        for at in range(60):
            groups, operators, pairs = random_book(chance) if at % 2 else sharing_book(chance)
            naming = Naming(chance, groups, operators)
            one = made(groups, operators, pairs)
            other = made(naming.groups, naming.operators, naming.pairs(pairs))
            self.assertEqual(other.ties.pairs(), sorted(naming.pairs(one.ties.pairs())))
            self.assertEqual(sorted(other.ties.needed()), sorted(naming.pairs(one.ties.needed())))
            self.assertEqual([sorted(level) for level in other.ties.levels()],
                             [sorted(naming.names[name] for name in level) for level in one.ties.levels()])
            self.assertEqual(two_readings(one) is None, two_readings(other) is None)
            for _ in range(8):
                text = " ".join(random_words(chance, SlowBook(groups, operators, pairs), 8))
                self.check_text(naming, one, other, text)
                if operators:
                    self.check_tree(naming, one, other, book_tree(chance, list(operators), 9))

    def check_text(self, naming, one, other, text):
        renamed = naming.text(text)
        self.assertEqual(how_many(one, text), how_many(other, renamed))
        self.assertEqual(stuck(one, text), stuck(other, renamed))
        if how_many(one, text) <= 20:
            self.assertEqual(sorted(naming.tree(tree) for tree in readings(one, text, most=20)),
                             readings(other, renamed, most=20))
        found, again = repair(one, text), repair(other, renamed)
        self.assertEqual(found is None, again is None)
        if found is not None:
            self.assertEqual(len(found[0]), len(again[0]))

    def check_tree(self, naming, one, other, tree):
        renamed = naming.tree(tree)
        self.assertEqual(one.unfit(tree), other.unfit(renamed))
        self.assertEqual(naming.tree(rounded(one, tree)), rounded(other, renamed))
        self.assertEqual(naming.text(written(one, tree)), written(other, renamed))
        self.assertEqual(naming.text(full_text(tree)), full_text(renamed))
        try:
            needs = one.needs(tree)
        except errors.Unfit as error:
            with self.assertRaises(errors.Unfit) as caught:
                other.needs(renamed)
            self.assertEqual(caught.exception.path, error.path)
        else:
            self.assertEqual(other.needs(renamed), sorted(naming.pairs(needs)))
            self.assertEqual(lacks(other, renamed), sorted(naming.pairs(lacks(one, tree))))

    def test_names_of_trees_as_words_and_groups(self):
        """The words "word" and "round" are words as others are."""
        book = Book([Group("word"), Group("round", "prefix"), Group("none", "postfix")],
                    [("_ word _", "word"), ("round _", "round"), ("_ none", "none")],
                    [("round", "word"), ("none", "round")])
        text = "round a none word round b"
        tree = ("_ word _", ("round _", ("_ none", ("word", "a"))), ("round _", ("word", "b")))
        self.assertEqual(read(book, text), tree)
        self.assertEqual(written(book, tree), text)
        self.assertEqual(full_text(tree), "( round ( a none ) ) word ( round b )")
        self.assertFalse(book.is_operand("round"))
        wished = Wishes(book)
        wished.shown(tree)
        self.assertEqual(wished.book(), Book(book.groups(), book.operators(),
                                             [("round", "word"), ("none", "round")]))


class TestBounds(unittest.TestCase):
    def great_book(self, chance, letters):
        """A book of twelve groups and thirty operators, whose words are all the letters, or signs."""
        names = LETTERS[:12]
        kinds = ["infix left", "infix right", "infix none", "prefix many", "prefix once", "postfix many",
                 "postfix once", "infix left", "infix right", "prefix many", "postfix many", "infix none"]
        groups = [Group.parsed(f"{name} {kind}") for name, kind in zip(names, kinds)]
        source = iter(LETTERS if letters else [one + other for one in SIGNS for other in SIGNS])
        operators = []
        for group in groups * 2:
            word = next(source)
            shape = {"infix": f"_ {word} _", "prefix": f"{word} _", "postfix": f"_ {word}"}[group.kind]
            operators.append((shape, group.name))
        one, other = next(source), next(source)
        # The words of the others are shared by plain shapes of different kinds.
        operators += [(f"{one} _ {other}", None)]
        plain = [(shape, name) for shape, name in operators[:5]]
        for shape, _ in plain:
            operators.append((f"{shape.split(' ')[1]} _", "d") if shape[0] == "_" else
                             (f"_ {shape.split(' ')[0]}", "f"))
        order = chance.sample(names, 12)
        return Book(groups, operators, list(zip(order, order[1:])))

    def test_great_books(self):
        chance = random.Random(2)
        for at in range(12):
            book = self.great_book(chance, at % 2)
            self.assertEqual((len(book), len(book.groups()), len(book.ties)), (30, 12, 66))
            operand = least_operand(book)
            self.assertEqual(operand, "aa" if at % 2 else "a")
            self.assertEqual(len(columns(book)), 30)
            listed = [text for text, _ in book.operators()]
            double = two_readings(book)
            if double is not None:
                self.assertEqual(how_many(book, double), 2)
            for _ in range(10):
                tree = fitting_tree(chance, book, chance.randint(1, 30), listed)
                text = text_of(tree).replace("x", operand).replace("y", operand).replace("z", operand)
                if at % 2 or len(text.split(" ")) > 60:
                    continue
                self.assertIsNone(stuck(book, text))
                if double is None:
                    self.assertEqual(how_many(book, text), 1)
                    self.assertEqual(text_of(read(book, text)), text)

    def test_words_that_are_all_the_letters(self):
        groups = [Group("s", side="left"), Group("p", "prefix", side="many")]
        operators = [(f"_ {letter} _", "s") for letter in LETTERS] + [("a _", "p"), ("[ _ ]", None)]
        book = Book(groups, operators, [("p", "s")])
        self.assertEqual((len(book), least_operand(book)), (28, "aa"))
        self.assertIsNone(two_readings(book))
        A = ("word", "aa")
        tree = ("_ z _", ("_ a _", A, ("a _", ("a _", A))), ("[ _ ]", ("_ b _", A, A)))
        text = "aa a a a aa z [ aa b aa ]"
        self.assertEqual((read(book, text), written(book, tree), stuck(book, text + " a")), (tree, text, 12))
        self.assertEqual(stuck(book, "x"), 0)
        self.assertEqual(repair(Book(groups, book.operators()), "a aa a aa"),
                         ([("p", "s")], ("_ a _", ("a _", A), A)))

    def test_texts_of_sixty_words(self):
        book = Book.chained("*", "+")
        text = " ".join(["x", "*", "x", "+"] * 15)[:-2]
        self.assertEqual(len(text.split(" ")), 59)
        tree = read(book, text)
        self.assertEqual((text_of(tree), written(book, tree), how_many(book, text)), (text, text, 1))
        self.assertEqual(stuck(book, text + " +"), 60)
        full = full_text(tree)
        self.assertEqual(len(full.split(" ")), 59 + 2 * 28)
        with self.assertRaises(errors.InvalidText) as caught:
            read(book, full)
        self.assertEqual(caught.exception.at, 60)
        shelf = Library()
        shelf.apply(("module", "m"), ("group", "m", "a infix left"), ("operator", "m", "_ + _", "a"))
        long = " ".join(["x", "+"] * 30)[:-2]
        self.assertEqual(Desk(library=shelf).say("read m " + long), "( " * 28 + "x + x" + " ) + x" * 28)
        self.assertEqual(Desk(library=shelf).say("stuck m " + long + " + x"), "error InvalidText")
        self.assertEqual(Desk(library=shelf).say("stuck m " + long + " +"), "60")

    def test_trees_of_sixty_parts_in_each_other(self):
        groups, operators = [Group("p", "prefix"), Group("q", "postfix")], [("- _", "p"), ("_ !", "q"), ("[ _ ]", None)]
        book = Book(groups, operators, [("p", "q")])
        tree = ("word", "x")
        for at in range(59):
            tree = (["- _", "_ !", "[ _ ]", "round"][at % 4], tree)
        self.assertEqual(text_of(rounded(book, tree)), written(book, tree))
        wished = Wishes(book)
        self.assertEqual((wished.shown(tree), wished.barred(tree)), (1, 2))
        self.assertEqual(wished.answer().chains(), [[("p", "q", 1)]])


class TestTogether(unittest.TestCase):
    def test_a_repair_is_what_wishes_need(self):
        chance = random.Random(3)
        many = 0
        for at in range(300):
            groups, operators, pairs = random_book(chance) if at % 2 else sharing_book(chance)
            book = made(groups, operators, [pair for pair in pairs if chance.random() < 0.3])
            found = repair(book, " ".join(random_words(chance, SlowBook(groups, operators, pairs), 8)))
            if found is None:
                continue
            many += 1
            missing, tree = found
            wished = Wishes(book)
            for pair in book.ties.needed():
                wished.said(*pair)
            wished.shown(tree)
            self.assertIs(type(wished.answer()), Settled)
            self.assertEqual(wished.book(), book.with_ties(*missing))
            self.assertIn(tree, readings(wished.book(), text_of(tree), most=20))
            barred = wished.barred(tree)
            self.assertEqual((type(wished.answer()), wished.answer().number), (Broken, barred))
            if missing:
                one, other = missing[0]
                wished.said(other, one)
                self.assertIs(type(wished.answer()), Ringed)
        self.assertGreater(many, 30)

    def test_a_text_that_parts_two_books_is_read_as_wished(self):
        chance = random.Random(4)
        many = 0
        for _ in range(120):
            groups, operators, pairs = random_book(chance)
            one = made(groups, operators, pairs)
            other = made(groups, operators, [pair[::-1] for pair in pairs])
            if two_readings(one) is None and two_readings(other) is None and parting(one, other) is not None:
                many += 1
                text = parting(one, other)
                wished = Wishes(one)
                wished.shown(read(one, text))
                wished.barred(read(other, text))
                self.assertIs(type(wished.answer()), Settled)
                self.assertEqual(read(wished.book(), text), read(one, text))
        self.assertGreater(many, 10)

    def test_a_book_as_a_library(self):
        chance = random.Random(5)
        for _ in range(40):
            groups, operators, pairs = random_book(chance)
            book = made(groups, operators, pairs)
            one = Library()
            one.apply(("module", "m"), *[("group", "m", group.text) for group in book.groups()],
                      *[("operator", "m", *pair) for pair in book.operators()],
                      *[("tie", "m", *pair) for pair in pairs])
            self.assertEqual(one.book("m"), book)
            self.assertEqual(read_page(write_page(one)), one)
            other = Desk()
            for line in ["module m", *[f"group m {group.text}" for group in book.groups()],
                         *[f"operator m {name or '-'} {text}" for text, name in book.operators()],
                         *[f"tie m {first} {second}" for first, second in pairs]]:
                self.assertEqual(other.say(line), "done")
            self.assertEqual(other.library(), one)
            needed = " ".join(f"{first}>{second}" for first, second in book.ties.needed())
            self.assertEqual(other.say("needed m"), needed or "none")


class TestInterface(unittest.TestCase):
    """The parameters by their names and places, as the document lists them."""

    def parameters(self, called):
        return str(inspect.signature(called)).replace("self, ", "").replace("self", "")

    def test_functions(self):
        for module, told in (
            (words, "is_word(value) is_letter_word(value) words_of(text)"), (shapes, "is_name(value)"),
            (trees, "is_tree(value) check_tree(value) parts_of(tree) text_of(tree) plain(tree) full_text(tree)"),
            (reading, "how_many(book,text) read(book,text) stuck(book,text) readings(book,text,*,most=2)"),
            (writing, "rounded(book,tree) written(book,tree) columns(book)"),
            (partings, "least_operand(book) two_readings(book) parting(one,other)"),
            (repairs, "lacks(book,tree) repair(book,text)"), (pages, "write_page(library) read_page(text)"),
        ):
            for form in told.split(" "):
                name, rest = form[:form.index("(")], form[form.index("("):]
                self.assertEqual(self.parameters(getattr(module, name)).replace(" ", ""), rest)
                self.assertEqual(getattr(module, name).__module__, module.__name__)

    def test_methods(self):
        for kind, told in (
            (shapes.Shape, "__init__(text) infix(word) prefix(word) postfix(word) filled(*parts)"),
            (shapes.Group, "__init__(name,kind='infix',*,side=None) parsed(text)"),
            (ties.Ties, "__init__(names,pairs=()) pairs() needed() with_ties(*pairs) above(name) below(name) levels() "
                        "orders(*,most=24) is_within(other)"),
            (books.Book, "__init__(groups,operators,ties=()) chained(*words) groups() operators() group_of(shape) "
                         "is_operand(value) may_stand(child,shape,hole) unfit(tree) needs(tree) with_ties(*pairs)"),
            (reading.Reader, "__init__(book) __call__(text) first(*texts)"),
            (wishes.Answer, "told() holds(wishes)"), (wishes.Settled, "__init__(ties) told() holds(wishes)"),
            (wishes.Ringed, "__init__(chain) told() holds(wishes) chain()"),
            (wishes.Broken, "__init__(number,chains) told() holds(wishes) chains()"),
            (wishes.Wishes, "__init__(book) said(one,other) shown(tree) barred(tree) drop(number) wishes() answer() "
                            "chain(one,other) book() twin()"),
            (library.Library, "__init__(*,limit=8) set_limit(value) apply(*commands) undo() redo() history() modules() "
                              "uses(name) said(name) book(name) read(name,text) kept() tried(*commands,name,text) "
                              "twin()"),
            (desk.Desk, "__init__(*,library=None) say(line) __call__(line) library() log()"),
        ):
            for form in told.split(" "):
                name, rest = form[:form.index("(")], form[form.index("("):]
                self.assertIn(name, vars(kind))
                self.assertEqual(self.parameters(getattr(kind, name)).replace(" ", ""), rest, (kind, name))

    def test_errors_are_caught_as_one(self):
        kinds = [kind for kind in vars(errors).values() if isinstance(kind, type)]
        self.assertEqual(len(kinds), 27)
        for one, other in itertools.permutations(kinds, 2):
            under = other in (errors.BindError, errors.Missing) and other in one.__bases__
            self.assertEqual(issubclass(one, other), under)


if __name__ == "__main__":
    unittest.main()
