import itertools
import random
import unittest

import slow
from pairbinds import reading
from pairbinds.books import Book
from pairbinds.errors import BindError, InvalidNumber, InvalidText, NoReading, TwoReadings
from pairbinds.reading import Reader, how_many, read, readings, stuck
from pairbinds.shapes import Group
from pairbinds.trees import is_bare, parts_of, text_of
from slow import SHAPES_OF, SIDES_OF, SlowBook, random_book
from values import OTHERS, made

MANY_SIGNS = "+*-!?:[],.;<>=@#&"
A, B, C, X, Y = [("word", letter) for letter in "abcxy"]
NO_TEXTS = (
    ("", 0), (" ", 0), ("a ", 1), (" a", 0), ("a  b", 1), ("A", 0), ("a + B", 2), ("a _ b", 1), ("a ++++ b", 1),
    ("a abcdefghi", 1), ("(a)", 0), ("a\n", 0), ("a + 1", 2), (" ".join(["a"] * 61), 60), (" ".join(["+"] * 200), 60),
    (" ".join(["a"] * 60) + " ", 60), (" ".join(["a"] * 59) + " ", 59), (None, 0), (True, 0), (5, 0), ([], 0),
    (["a"], 0), (("a", "+", "b"), 0), (("word", "a"), 0), ([["a"]], 0),
)


def doubled(side="left"):
    """A book in which a word is infix, prefix and postfix, and texts can have two readings."""
    groups = [Group("a", side=side), Group("c", "prefix", side="many"), Group("d", "postfix", side="many")]
    return Book(groups, [("_ ! _", "a"), ("_ !", "d"), ("! _", "c")], [("c", "a"), ("d", "a")])


def sharing_book(chance):
    """Groups, operators and ties in which plain shapes share words a lot."""
    names = "abcdefgh"[:chance.randint(3, 7)]
    groups = {}
    for name in names:
        kind = chance.choice(["infix", "prefix", "postfix"])
        groups[name] = (kind, chance.choice(SIDES_OF[kind]))
    operators = {}
    for name in names:
        for word in chance.sample("+-*!", chance.randint(1, 3)):
            operators.setdefault(SHAPES_OF[groups[name][0]].format(word), name)
    if chance.random() < 0.5:
        name = chance.choice(names)
        kind = groups[name][0]
        operators["_ " * (kind != "prefix") + "[ _ ]" + " _" * (kind != "postfix")] = name
    # Infix groups often bind less tight than the others, so that there are texts with two readings.
    order = chance.sample(names, len(names))
    order.sort(key=lambda name: groups[name][0] == "infix" and chance.random() < 0.8)
    return groups, operators, [pair for pair in itertools.combinations(order, 2) if chance.random() < 0.85]


def random_words(chance, book, most):
    """Words that often, but not always, are the beginning of a text with a reading."""
    choice = sorted(book.words) * 3 + ["x", "y", "(", ")"] + ["x"] * len(book.words) * 2
    words = []
    for _ in range(chance.randint(1, most)):
        word = chance.choice(choice)
        for _ in range(3):
            if chance.random() < 0.05 or slow.SlowText(book, words + [word]).can_begin():
                break
            word = chance.choice(choice)
        words.append(word)
    return words


def fitting_tree(chance, book, parts, shapes):
    """A tree that fits a book, with brackets where they are needed, and now and then elsewhere."""
    if parts <= 1 or not shapes:
        return ("word", chance.choice("xyz"))
    shape = chance.choice(shapes)
    trees = []
    holes = shape.split(" ").count("_")
    for hole in range(holes):
        tree = fitting_tree(chance, book, (parts - 1) // holes, shapes)
        needed = is_bare(tree) and not book.may_stand(tree[0], shape, hole)
        trees.append(("round", tree) if needed or chance.random() < 0.1 else tree)
    return (shape, *trees)


class ReadingCase(unittest.TestCase):
    def assert_raises(self, error, attribute, given, call, *arguments, **named):
        with self.assertRaises(error) as caught:
            call(*arguments, **named)
        self.assertIs(type(caught.exception), error)
        self.assertIsInstance(caught.exception, BindError)
        self.assertEqual(getattr(caught.exception, attribute), given)
        self.assertIs(type(getattr(caught.exception, attribute)), type(given))
        self.assertEqual(caught.exception.code, error.__name__)

    def assert_one(self, book, text, tree):
        self.assertEqual(read(book, text), tree)
        self.assertEqual((readings(book, text), how_many(book, text), stuck(book, text)), ([tree], 1, None))
        self.assertEqual(text_of(tree), text)
        self.assertIsNone(book.unfit(tree))

    def assert_stuck(self, book, text, at):
        self.assertEqual((readings(book, text), how_many(book, text), stuck(book, text)), ([], 0, at))
        self.assert_raises(NoReading, "at", at, read, book, text)

    def assert_many(self, book, text, many):
        """A text has so many readings, more than one."""
        self.assertEqual((how_many(book, text), stuck(book, text)), (many, None))
        self.assert_raises(TwoReadings, "text", text, read, book, text)
        found = readings(book, text, most=20)
        self.assertEqual(len(found), min(many, 20))
        self.assertTrue(all(one < other for one, other in zip(found, found[1:])))
        for tree in found:
            self.assertEqual(text_of(tree), text)
            self.assertIsNone(book.unfit(tree))
        for most in (1, 2, 3, 19):
            some = readings(book, text, most=most)
            self.assertEqual(len(some), min(many, most))
            self.assertEqual(some, sorted(some))
            if many <= most:
                self.assertEqual(some, found)
        self.assertEqual(len(readings(book, text)), 2)


class TestExamples(ReadingCase):
    def test_of_the_document(self):
        self.assert_one(Book.chained("*", "+"), "a + b * c", ("_ + _", A, ("_ * _", B, C)))
        self.assert_stuck(Book([Group("a")], [("_ + _", "a")]), "x + x + x", 3)
        groups = [Group("a"), Group("c", "prefix"), Group("d", "postfix")]
        book = Book(groups, [("_ ! _", "a"), ("_ !", "d"), ("! _", "c")], [("c", "a"), ("d", "a")])
        self.assert_many(book, "a ! ! a", 2)
        self.assertEqual(readings(book, "a ! ! a"), [("_ ! _", ("_ !", A), A), ("_ ! _", A, ("! _", A))])


class TestShortTexts(ReadingCase):
    def test_without_operators(self):
        book = Book([], [])
        self.assert_one(book, "a", A)
        self.assert_one(book, "( a )", ("round", A))
        self.assert_one(book, "( ( a ) )", ("round", ("round", A)))
        for text, at in (("(", 1), (")", 0), ("+", 0), ("a a", 1), ("a (", 1), ("a )", 1), ("( a", 2), ("( )", 1),
                         ("( a ) a", 3), ("( a ) )", 3), ("( a ( a ) )", 2), ("( ( a )", 4), ("( a ) (", 3)):
            self.assert_stuck(book, text, at)

    def test_sides(self):
        for side, tree in (("left", ("_ + _", ("_ + _", A, B), C)), ("right", ("_ + _", A, ("_ + _", B, C))),
                           ("none", None)):
            book = Book([Group("s", side=side)], [("_ + _", "s")])
            if tree:
                self.assert_one(book, "a + b + c", tree)
            else:
                self.assert_stuck(book, "a + b + c", 3)
            self.assert_one(book, "( a + b ) + c", ("_ + _", ("round", ("_ + _", A, B)), C))
            self.assert_one(book, "a + ( b + c )", ("_ + _", A, ("round", ("_ + _", B, C))))

    def test_many_and_once(self):
        for side, at in (("many", None), ("once", 1)):
            book = Book([Group("s", "prefix", side=side), Group("t", "postfix", side=side)],
                        [("- _", "s"), ("_ !", "t"), ("# _", "s")])
            if at is None:
                self.assert_one(book, "- # a", ("- _", ("# _", A)))
                self.assert_one(book, "a ! !", ("_ !", ("_ !", A)))
            else:
                self.assert_stuck(book, "- # a", 1)
                self.assert_stuck(book, "a ! !", 2)
            self.assert_stuck(book, "- a !", 2)
            self.assert_one(book.with_ties(("s", "t")), "- a !", ("_ !", ("- _", A)))
            self.assert_one(book.with_ties(("t", "s")), "- a !", ("- _", ("_ !", A)))
            self.assert_one(book, "- ( a ! )", ("- _", ("round", ("_ !", A))))

    def test_groups_with_and_without_ties(self):
        book = Book([Group("m", side="left"), Group("p", side="left")], [("_ * _", "m"), ("_ + _", "p")])
        self.assert_stuck(book, "a + b * c", 3)
        self.assert_stuck(book, "a * b + c", 3)
        self.assert_one(book.with_ties(("m", "p")), "a * b + c", ("_ + _", ("_ * _", A, B), C))
        self.assert_one(book.with_ties(("p", "m")), "a * b + c", ("_ * _", A, ("_ + _", B, C)))

    def test_shapes_of_many_words(self):
        book = Book([Group("q", side="right"), Group("i", "prefix"), Group("g", "postfix", side="many"), Group("p")],
                    [("_ ? _ : _", "q"), ("if _ then _ else _", "i"), ("_ [ _ , _ ]", "g"), ("{ _ | _ }", None),
                     ("_ + _", "p")], [("g", "p"), ("p", "q"), ("q", "i")])
        self.assert_one(book, "a ? b : c ? x : y", ("_ ? _ : _", A, B, ("_ ? _ : _", C, X, Y)))
        self.assert_one(book, "a ? b ? x : y : c", ("_ ? _ : _", A, ("_ ? _ : _", B, X, Y), C))
        self.assert_one(book, "if a then if b then c else x else y + a",
                        ("if _ then _ else _", A, ("if _ then _ else _", B, C, X), ("_ + _", Y, A)))
        self.assert_one(book, "{ if a then b else c | a + b } [ a , b ] [ x , y ] + c",
                        ("_ + _", ("_ [ _ , _ ]", ("_ [ _ , _ ]", ("{ _ | _ }", ("if _ then _ else _", A, B, C),
                                                                    ("_ + _", A, B)), A, B), X, Y), C))
        self.assert_one(book, "if a then b else c ? x : y",
                        ("if _ then _ else _", A, B, ("_ ? _ : _", C, X, Y)))
        for text, at in (
            ("a ? b", 3), ("a ? b c", 3), ("a : b", 1), ("a ? b : c :", 5), ("a ? b + b + c : c", 5), ("if a else", 2),
            ("if then", 1), ("a + if", 2), ("{ a , b }", 2), ("{ a | b ]", 4),
            ("{ ( a | b ) }", 3), ("( { a ) }", 3), ("a [ b", 3), ("a [ b ]", 3), ("a [ b , c ] x", 6),
            ("{ a | b } }", 5), ("then", 0), ("a then", 1), ("|", 0),
        ):
            self.assert_stuck(book, text, at)

    def test_words_of_the_book_are_no_operands(self):
        book = Book([Group("a")], [("_ mod _", "a")])
        self.assert_one(book, "a mod b", ("_ mod _", A, B))
        self.assert_stuck(book, "mod", 0)
        self.assert_stuck(book, "a mod mod", 2)
        self.assert_stuck(book, "a + b", 1)

    def test_stuck_at_the_first_word_within_and_at_the_end(self):
        book = Book.chained("*", "+")
        for text, at in (("+", 0), (") a", 0), ("* a", 0), ("a b", 1), ("a + * b", 2), ("a + ( b + ) * c", 5),
                         ("a +", 2), ("( a + b", 4), ("( (", 2), ("a * ( b + ( c", 7), ("a + b )", 3), ("- a", 0)):
            self.assert_stuck(book, text, at)

    def test_all_letters_are_words(self):
        """There are operands of two letters, though no text of this test has one."""
        letters = "abcdefghijklmnopqrstuvwxyz"
        book = Book([Group("s", side="left")], [("_ " + letter + " _", "s") for letter in letters])
        self.assert_stuck(book, "aa b", 2)
        self.assert_stuck(book, "a", 0)
        self.assert_one(book, "aa b cc", ("_ b _", ("word", "aa"), ("word", "cc")))

    def test_a_plain_word_of_three_kinds(self):
        book = doubled()
        self.assert_one(book, "! a", ("! _", A))
        self.assert_one(book, "a !", ("_ !", A))
        self.assert_one(book, "a ! b", ("_ ! _", A, B))
        self.assert_many(book, "a ! ! b", 2)
        self.assert_many(book, "a ! ! ! b", 3)
        self.assert_one(book, "! a ! b !", ("_ ! _", ("! _", A), ("_ !", B)))
        self.assert_stuck(book, "! a !", 3)
        self.assert_stuck(book, "! a ! (", 4)


class TestRandomTexts(ReadingCase):
    def check(self, groups, operators, ties, words):
        book, other = made(groups, operators, ties), SlowBook(groups, operators, ties)
        text = " ".join(words)
        trees = sorted(slow.all_trees(other, words))
        self.assertEqual(len(trees), slow.how_many(other, words))
        if not trees:
            self.assert_stuck(book, text, slow.stuck(other, words))
        elif len(trees) == 1:
            self.assert_one(book, text, trees[0])
        else:
            self.assert_many(book, text, len(trees))
            self.assertEqual(set(readings(book, text, most=20)) - set(trees), set())
            if len(trees) <= 20:
                self.assertEqual(readings(book, text, most=20), trees)
        return min(len(trees), 2)

    def test_random_books(self):
        chance = random.Random(1)
        seen = {0: 0, 1: 0, 2: 0}
        for at in range(120):
            groups, operators, ties = random_book(chance) if at % 2 else sharing_book(chance)
            for _ in range(12):
                words = random_words(chance, SlowBook(groups, operators, ties), 8)
                seen[self.check(groups, operators, ties, words)] += 1
        self.assertGreater(min(seen.values()), 5, seen)

    def test_all_short_texts(self):
        chance = random.Random(2)
        for at in range(12):
            groups, operators, ties = random_book(chance, 3, 3, "+-[]") if at % 2 else sharing_book(chance)
            words = sorted(SlowBook(groups, operators, ties).words)[:3] + ["x", "(", ")"]
            for many in range(1, 4):
                for some in itertools.product(words, repeat=many):
                    self.check(groups, operators, ties, list(some))

    def test_texts_of_fitting_trees(self):
        chance = random.Random(3)
        one = many = 0
        for at in range(200):
            groups, operators, ties = random_book(chance, 12, 20, MANY_SIGNS) if at % 2 else sharing_book(chance)
            book = made(groups, operators, ties)
            for _ in range(5):
                tree = fitting_tree(chance, book, chance.randint(1, 40), list(operators))
                text = text_of(tree)
                if len(text.split(" ")) > 60:
                    continue
                self.assertIsNone(book.unfit(tree))
                self.assertIsNone(stuck(book, text))
                if how_many(book, text) == 1:
                    one += 1
                    self.assert_one(book, text, tree)
                else:
                    many += 1
                    self.assert_many(book, text, how_many(book, text))
                    if how_many(book, text) <= 20:
                        self.assertIn(tree, readings(book, text, most=20))
                self.check_beginnings(book, text.split(" "), chance)
        self.assertGreater(min(one, many), 20)

    def check_beginnings(self, book, words, chance):
        """No beginning of a text with a reading is stuck, and no word behind it changes where it is."""
        at = chance.randint(1, len(words))
        self.assertIn(stuck(book, " ".join(words[:at])), (None, at))
        if at < len(words):
            self.assertEqual(stuck(book, " ".join(words[:at] + ["###"] + words[at + 1:])), at)


class TestFacts(ReadingCase):
    def test_further_ties_leave_the_readings(self):
        chance = random.Random(4)
        more = 0
        for _ in range(100):
            groups, operators, ties = sharing_book(chance)
            fewer, book = made(groups, operators, ties[:len(ties) // 2]), made(groups, operators, ties)
            for _ in range(10):
                text = " ".join(random_words(chance, SlowBook(groups, operators, ties), 7))
                one, other = readings(fewer, text, most=20), readings(book, text, most=20)
                self.assertLessEqual(set(one), set(other))
                more += len(one) < len(other)
        self.assertGreater(more, 20)

    def test_two_readings_of_four_words(self):
        chance = random.Random(5)
        seen = {True: 0, False: 0}
        for _ in range(40):
            groups, operators, ties = sharing_book(chance)
            book, held = made(groups, operators, ties), slow.closed(ties)
            words = sorted(SlowBook(groups, operators, ties).words)
            some = False
            for one, other in itertools.product(words, repeat=2):
                text = f"x {one} {other} y"
                places = [operators.get(shape) for shape in (f"_ {one} _", f"_ {one}", f"{other} _", f"_ {other} _")]
                first, postfix, prefix, second = places
                told = None not in places and (prefix, first) in held and (postfix, second) in held
                self.assertEqual(how_many(book, text), 2 if told else how_many(book, text) and 1)
                some = some or told
            seen[some] += 1
            if not some:
                for _ in range(20):
                    text = " ".join(random_words(chance, SlowBook(groups, operators, ties), 10))
                    self.assertLess(how_many(book, text), 2)
        self.assertGreater(min(seen.values()), 5)

    def test_stuck_texts_by_the_fact(self):
        """A beginning of a text has a reading when it is ended as the document tells."""
        book = Book([Group("q", side="right"), Group("i", "prefix"), Group("p", side="left")],
                    [("_ ? _ : _", "q"), ("if _ then _", "i"), ("_ + _", "p"), ("[ _ , _ ]", None)],
                    [("p", "q"), ("q", "i")])
        for text, ended in (
            ("if", "if x then x"), ("if a", "if a then x"), ("a ?", "a ? x : x"),
            ("a ? b : ( [ a , b +", "a ? b : ( [ a , b + x ] )"),
            ("( a ? if b", "( a ? if b then x : x )"), ("[ ( a", "[ ( a ) , x ]"), ("a + b ?", "a + b ? x : x"),
        ):
            self.assertEqual(how_many(book, ended), 1)
            self.assert_stuck(book, text, len(text.split(" ")))


class TestLongTexts(ReadingCase):
    def test_thirty_operands_in_a_chain(self):
        operands = ["x"] * 30
        for side in ("left", "right"):
            book = Book([Group("s", side=side)], [("_ + _", "s"), ("_ - _", "s")])
            text = " ".join(itertools.chain.from_iterable(zip(operands, "+-" * 15)))[:-2]
            tree = X
            for word in ("+-" * 15)[:29] if side == "left" else ("+-" * 15)[:29][::-1]:
                tree = (f"_ {word} _", tree, X) if side == "left" else (f"_ {word} _", X, tree)
            self.assertEqual(len(text.split(" ")), 59)
            self.assert_one(book, text, tree)
            self.assert_stuck(book, text + " +", 60)
            self.assert_stuck(book, text + " x", 59)
            self.assert_raises(InvalidText, "at", 60, stuck, book, text + " + x")

    def test_chains_of_many_levels(self):
        signs = ["*", "/", "+", "-", "<", ">", "=", "&", "|", "?", ":", ";"]
        book = Book.chained(*signs)
        chance = random.Random(6)
        for _ in range(20):
            words = ["x"]
            for _ in range(29):
                words += [chance.choice(signs), "x"]
            tree = self.climbed(words, signs, len(signs) - 1)
            self.assert_one(book, " ".join(words), tree)

    def climbed(self, words, signs, level):
        """The tree of a chain, parted at its last word of the least tight level that it has."""
        if len(words) == 1:
            return ("word", words[0])
        for at in reversed(range(len(words))):
            if words[at] == signs[level]:
                left, right = words[:at], words[at + 1:]
                return (f"_ {words[at]} _", self.climbed(left, signs, level), self.climbed(right, signs, level))
        return self.climbed(words, signs, level - 1)

    def test_a_chain_without_a_side(self):
        book = Book([Group("s")], [("_ + _", "s")])
        self.assert_stuck(book, " ".join(["x", "+"] * 30), 3)
        both = ("round", ("_ + _", X, X))
        self.assert_one(book, "( x + x ) + ( x + x )", ("_ + _", both, both))

    def test_59_prefix_and_postfix_words(self):
        book = Book([Group("p", "prefix", side="many"), Group("q", "postfix", side="many")],
                    [("- _", "p"), ("_ !", "q"), ("neg _", "p")], [("p", "q")])
        before, behind = X, X
        for _ in range(59):
            before, behind = ("- _", before), ("_ !", behind)
        self.assert_one(book, "- " * 59 + "x", before)
        self.assert_one(book, "x" + " !" * 59, behind)
        self.assert_stuck(book, ("- " * 60)[:-1], 60)
        self.assert_stuck(book, "neg " * 59 + "!", 59)
        self.assertEqual(how_many(book, "neg " * 30 + "x" + " !" * 29), 1)
        self.assert_stuck(Book(book.groups(), book.operators()), "- " * 30 + "x" + " !" * 29, 31)

    def test_nested_brackets(self):
        book = Book.chained("*", "+")
        tree = X
        for _ in range(29):
            tree = ("round", tree)
        self.assert_one(book, "( " * 29 + "x" + " )" * 29, tree)
        self.assert_stuck(book, "( " * 29 + "x" + " )" * 30, 59)
        self.assert_stuck(book, "( " * 30 + "x" + " )" * 29, 60)
        self.assert_stuck(book, ("( " * 60)[:-1], 60)
        tree = X
        for _ in range(11):
            tree = ("_ * _", ("round", tree), Y) if tree[0] == "_ + _" else ("_ + _", X, tree)
        self.assert_one(book, text_of(tree), tree)

    def test_nested_shapes(self):
        book = Book([Group("p", "prefix", side="many")], [("a _ b _ c _ d _", "p"), ("[ _ , _ ]", None)])
        text = "a " * 10 + "x" + " b x c x d x" * 7 + " b x c x"
        self.assertEqual(len(text.split(" ")), 10 + 1 + 42 + 4)
        self.assert_stuck(book, text, 57)
        self.assert_stuck(book, ("a " * 60)[:-1], 60)
        self.assert_stuck(book, "a " * 20 + "x b", 22)
        self.assert_stuck(book, "a " * 20 + "x c", 21)
        tree = X
        for _ in range(14):
            tree = ("[ _ , _ ]", tree, X) if len(text_of(tree)) % 3 else ("[ _ , _ ]", X, tree)
        text = text_of(tree)
        self.assertEqual(len(text.split(" ")), 57)
        self.assert_one(book, text, tree)
        self.assert_stuck(book, text[:-2], 56)
        self.assert_stuck(book, text + " ]", 57)
        self.assert_stuck(book, text.replace(" ]", " )", 1), text.split(" ").index("]"))

    def test_very_many_readings(self):
        groups = [Group("a"), Group("c", "prefix", side="many"), Group("d", "postfix", side="many"),
                  Group("z", side="left")]
        book = Book(groups, [("_ ! _", "a"), ("_ !", "d"), ("! _", "c"), ("_ + _", "z"), ("[ _ , _ ]", None)],
                    [("c", "a"), ("d", "a"), ("a", "z")])
        self.assert_many(book, " + ".join(["x ! ! x"] * 12), 2 ** 12)
        self.assert_many(book, "[ " * 7 + " , x ! ! x ]".join(["x ! ! x"] + [""] * 7), 2 ** 8)
        for many in (1, 2, 10, 58):
            if many == 1:
                self.assert_one(book, "x ! x", ("_ ! _", X, X))
            else:
                self.assert_many(book, "x " + "! " * many + "x", many)
        self.assert_many(book, "x ! ! ! x + ( x ! ! ! ! x )", 3 * 4)
        self.assertEqual(len(readings(book, " + ".join(["x ! ! x"] * 12), most=20)), 20)

    def test_more_readings_than_a_chain_has_orders(self):
        """Two words that are infix, prefix and postfix in groups that are tied in all the ways that part a text."""
        groups = [Group("a", side="left"), Group("c", "prefix", side="many"), Group("d", "postfix", side="many")]
        operators = [("_ ! _", "a"), ("_ !", "d"), ("! _", "c"), ("_ + _", "a"), ("_ +", "d"), ("+ _", "c")]
        book = Book(groups, operators, [("c", "a"), ("d", "a"), ("c", "d")])
        other = SlowBook({"a": ("infix", "left"), "c": ("prefix", "many"), "d": ("postfix", "many")},
                         dict(operators), [("c", "a"), ("d", "a"), ("c", "d")])
        text = "x ! + ! x + + x ! ! + x"
        self.assert_many(book, text, slow.how_many(other, text.split(" ")))
        text = " ".join((["x"] + ["!", "+", "!", "+"]) * 12)
        self.assertEqual(len(text.split(" ")), 60)
        self.assertGreater(how_many(book, text), 10 ** 6)
        self.assertIsNone(stuck(book, text))
        self.assertEqual(len(readings(book, text, most=20)), 20)


class TestArguments(ReadingCase):
    def test_texts_that_are_none(self):
        book = Book.chained("+")
        for text, at in NO_TEXTS:
            for call in (readings, how_many, read, stuck, lambda one, other: Reader(one)(other)):
                self.assert_raises(InvalidText, "at", at, call, book, text)
            # The text counts ahead of the number.
            for most in (0, None, 21):
                self.assert_raises(InvalidText, "at", at, readings, book, text, most=most)

    def test_most(self):
        book = doubled()
        for text in ("x", "x ! ! x", "x x"):
            for value in OTHERS + (0, 21, -1, 999999999, True, False, None, "2", [2], (2,)):
                if type(value) is int and 1 <= value <= 20:
                    continue
                self.assert_raises(InvalidNumber, "given", value, readings, book, text, most=value)
        text = "x " + "! " * 25 + "x"
        for most in range(1, 21):
            self.assertEqual(len(readings(book, text, most=most)), most)
        self.assertEqual(readings(book, "x", most=1), [X])
        self.assertEqual(readings(book, "x x", most=20), [])
        with self.assertRaises(TypeError):
            readings(book, "x", 2)

    def test_results_are_equal_and_new(self):
        book = doubled()
        for text in ("x ! ! x", "x ! ! ! ! ! x", "x", "x x"):
            first = readings(book, text)
            self.assertIs(type(first), list)
            first.append(None)
            self.assertEqual(readings(book, text), first[:-1])
            self.assertEqual(readings(doubled(), text), first[:-1])
        again = Book(list(reversed(book.groups())), list(reversed(book.operators())), book.ties.pairs())
        self.assertEqual(again, book)
        text = "x " + "! " * 25 + "x"
        self.assertEqual(readings(again, text, most=20), readings(book, text, most=20))

    def test_by_name(self):
        book = doubled()
        self.assertEqual(readings(most=2, text="x", book=book), [X])
        self.assertEqual(how_many(text="x", book=book), 1)
        self.assertEqual(read(text="x", book=book), X)
        self.assertIsNone(stuck(text="x", book=book))

    def test_kinds_of_results(self):
        book = doubled()
        self.assertIs(type(how_many(book, "x ! ! x")), int)
        self.assertIs(type(how_many(book, "x x")), int)
        self.assertIs(type(stuck(book, "x x")), int)
        self.assertIs(type(read(book, "x !")), tuple)
        for _, part in parts_of(readings(book, "( x ! ! x ) !")[0]):
            self.assertIs(type(part), tuple)

    def test_defined_here(self):
        for value in (readings, how_many, read, stuck, Reader):
            self.assertEqual(value.__module__, reading.__name__)


class TestReader(ReadingCase):
    def test_calls_are_counted(self):
        reader = Reader(doubled())
        self.assertEqual(reader.asked, 0)
        self.assertEqual(reader("x !"), ("_ !", X))
        self.assertEqual(reader(text="x"), X)
        self.assertEqual(reader.asked, 2)
        self.assert_raises(NoReading, "at", 1, reader, "x x")
        self.assert_raises(TwoReadings, "text", "x ! ! x", reader, "x ! ! x")
        self.assert_raises(InvalidText, "at", 2, reader, "x !  x")
        self.assert_raises(InvalidText, "at", 0, reader, None)
        self.assertEqual(reader.asked, 6)
        self.assertEqual(Reader(book=doubled()).asked, 0)

    def test_first(self):
        reader = Reader(doubled())
        self.assertIsNone(reader.first())
        self.assertEqual(reader.asked, 0)
        self.assertEqual(reader.first("x"), X)
        self.assertEqual(reader.asked, 1)
        self.assertEqual(reader.first("x x", "x ! ! x", "", "A", None, ["x"], "x !", "x"), ("_ !", X))
        self.assertEqual(reader.asked, 8)
        self.assertIsNone(reader.first("x x", "x ! ! x", "x  x", " ".join(["x"] * 61)))
        self.assertEqual(reader.asked, 12)
        self.assertEqual(reader.first("y", "x x"), Y)
        self.assertEqual(reader.asked, 13)
        for value in OTHERS:
            self.assertIn(reader.first(value), (None, ("word", value)))

    def test_readers_are_apart(self):
        book = doubled()
        one, other = Reader(book), Reader(book)
        one("x")
        self.assertEqual((one.asked, other.asked), (1, 0))

    def test_methods_are_defined_in_the_class(self):
        for name in ("__init__", "__call__", "asked", "first"):
            self.assertIn(name, vars(Reader))
        self.assertIsInstance(vars(Reader)["asked"], property)


if __name__ == "__main__":
    unittest.main()
