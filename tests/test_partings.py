import itertools
import random
import unittest

import slow
from pairbinds import partings
from pairbinds.books import Book
from pairbinds.errors import BindError, TwoReadings, Unlike
from pairbinds.partings import least_operand, parting, two_readings
from pairbinds.reading import how_many, read
from pairbinds.shapes import Group
from slow import SlowBook, random_book
from test_reading import doubled, sharing_book
from values import made

LETTERS = "abcdefghijklmnopqrstuvwxyz"


def text_with_two(book):
    """The text that two_readings returns, by looking at all texts of four words."""
    operand = least_operand(made(book.groups, book.operators, ()))
    for one, other in itertools.product(sorted(book.words), repeat=2):
        if slow.how_many(book, [operand, one, other, operand]) > 1:
            return f"{operand} {one} {other} {operand}"
    return None


def trees_of_two(operators):
    """All trees of two bare shapes, with operands elsewhere, also in inner holes."""
    bare = [text for text, name in operators.items() if name is not None]
    for shape, child in itertools.product(bare, repeat=2):
        for hole in range(shape.split(" ").count("_")):
            below = [("word", "x")] * shape.split(" ").count("_")
            below[hole] = (child, *[("word", "x")] * child.split(" ").count("_"))
            yield (shape, *below)


def texts_of_two(operators):
    """All texts of two bare shapes."""
    found = {}
    for tree in trees_of_two(operators):
        words = []
        left = [tree]
        while left:
            part = left.pop()
            if isinstance(part, str):
                words.append(part)
            elif part[0] == "word":
                words.append(part[1])
            else:
                indexes = iter(part[1:])
                left.extend(reversed([next(indexes) if own == "_" else own for own in part[0].split(" ")]))
        found[" ".join(words)] = True
    return list(found)


class PartingsCase(unittest.TestCase):
    def assert_two(self, text, call, *arguments):
        with self.assertRaises(TwoReadings) as caught:
            call(*arguments)
        self.assertIs(type(caught.exception), TwoReadings)
        self.assertIsInstance(caught.exception, BindError)
        self.assertEqual((caught.exception.text, caught.exception.code), (text, "TwoReadings"))

    def assert_unlike(self, call, *arguments):
        with self.assertRaises(Unlike) as caught:
            call(*arguments)
        self.assertIs(type(caught.exception), Unlike)
        self.assertEqual(caught.exception.code, "Unlike")


class TestLeastOperand(unittest.TestCase):
    def letters_book(self, words):
        return Book([Group("s")], [(f"_ {word} _", "s") for word in words])

    def test_told_one_by_one(self):
        for words, operand in (
            ("", "a"), ("+", "a"), ("bcd", "a"), ("a", "b"), ("abd", "c"), ("zyx", "a"), (LETTERS[:25], "z"),
            (LETTERS, "aa"), ([*LETTERS, "aa"], "ab"), ([*LETTERS, "ab", "aa", "ad"], "ac"), (["aa"], "a"),
        ):
            book = self.letters_book(words)
            self.assertEqual(least_operand(book), operand)
            self.assertTrue(book.is_operand(operand))

    def test_words_of_shapes_of_each_kind(self):
        book = Book([Group("i"), Group("p", "prefix"), Group("q", "postfix")],
                    [("_ a _ e _", "i"), ("b _", "p"), ("c _ d _", "p"), ("_ f", "q"), ("g _ h", None)])
        self.assertEqual(least_operand(book), "i")

    def test_more_than_two_letters_are_used_up(self):
        """A hundred and twenty words leave no letter, and not all words of two letters."""
        words = iter([*LETTERS, *["a" + letter for letter in LETTERS], *["b" + letter for letter in LETTERS],
                      *["c" + letter for letter in LETTERS], *["d" + letter for letter in LETTERS]])
        operators = [(" _ ".join(next(words) for _ in range(4)), None) for _ in range(30)]
        book = Book([], operators)
        self.assertEqual(least_operand(book), "dq")
        self.assertEqual(least_operand(book=book), "dq")


class TestTwoReadings(PartingsCase):
    def test_of_the_document(self):
        groups = [Group("a"), Group("c", "prefix"), Group("d", "postfix")]
        operators = [("_ ! _", "a"), ("_ !", "d"), ("! _", "c")]
        for ties, text in (
            ([("c", "a"), ("d", "a")], "a ! ! a"), ([("c", "a")], None), ([("d", "a")], None), ([], None),
            ([("a", "c"), ("d", "a")], None), ([("c", "a"), ("a", "d")], None), ([("c", "d"), ("d", "a")], "a ! ! a"),
            ([("d", "c"), ("c", "a")], "a ! ! a"), ([("c", "d")], None),
        ):
            self.assertEqual(two_readings(Book(groups, operators, ties)), text)
        ties = [("c", "a"), ("d", "a")]
        for at in range(3):
            self.assertIsNone(two_readings(Book(groups, operators[:at] + operators[at + 1:], ties)))

    def test_each_shape_in_a_group_of_its_own(self):
        groups = [Group("v"), Group("w"), Group("p", "prefix"), Group("q", "postfix")]
        operators = [("_ + _", "v"), ("_ +", "q"), ("- _", "p"), ("_ - _", "w")]
        pairs = [("p", "v"), ("q", "w"), ("v", "p"), ("w", "q"), ("p", "w"), ("q", "v")]
        for many in range(len(pairs) + 1):
            for ties in itertools.combinations(pairs, many):
                if {("p", "v"), ("v", "p")} <= set(ties) or {("q", "w"), ("w", "q")} <= set(ties):
                    continue
                held = slow.closed(ties)
                if any(one == other for one, other in held):
                    continue
                text = "a + - a" if ("p", "v") in held and ("q", "w") in held else None
                self.assertEqual(two_readings(Book(groups, operators, ties)), text)

    def test_the_least_pair(self):
        groups = [Group("i"), Group("p", "prefix"), Group("q", "postfix")]
        operators = [(shape.format(word), name) for word in "z+m!" for shape, name in
                     (("_ {} _", "i"), ("{} _", "p"), ("_ {}", "q"))]
        ties = [("p", "i"), ("q", "i")]
        self.assertEqual(two_readings(Book(groups, operators, ties)), "a ! ! a")
        some = [pair for pair in operators if pair[0] != "_ !"]
        self.assertEqual(two_readings(Book(groups, some, ties)), "a + ! a")
        some = [pair for pair in operators if pair[0] not in ("_ !", "! _")]
        self.assertEqual(two_readings(Book(groups, some, ties)), "a + + a")
        some = [pair for pair in operators if pair[0] in ("_ z _", "_ m _", "_ z", "m _", "_ m")]
        self.assertEqual(two_readings(Book(groups, some, ties)), "a m m a")
        some = [pair for pair in operators if pair[0] in ("_ z _", "_ m _", "_ z", "m _")]
        self.assertEqual(two_readings(Book(groups, some, ties)), "a z m a")
        # The first word counts ahead of the second one.
        some = [pair for pair in operators if pair[0] in ("_ z _", "_ m _", "_ z", "z _", "m _", "_ m")]
        self.assertEqual(two_readings(Book(groups, some, ties)), "a m m a")
        some = [pair for pair in operators if pair[0] in ("_ z _", "_ m _", "_ z", "z _", "_ m")]
        self.assertEqual(two_readings(Book(groups, some, ties)), "a m z a")

    def test_the_operand(self):
        groups = [Group("i"), Group("p", "prefix"), Group("q", "postfix")]
        for words, operand in (("a", "b"), (LETTERS, "aa"), ("!ab", "c")):
            operators = [(f"_ {word} _", "i") for word in words]
            operators += [(f"{words[-1]} _", "p"), (f"_ {words[-1]}", "q")]
            book = Book(groups, operators, [("p", "i"), ("q", "i")])
            self.assertEqual(two_readings(book), f"{operand} {words[-1]} {words[-1]} {operand}")
            self.assertEqual(how_many(book, two_readings(book)), 2)

    def test_all_texts_of_four_words(self):
        chance = random.Random(1)
        seen = {True: 0, False: 0}
        for at in range(150):
            groups, operators, ties = random_book(chance, words="abc+*") if at % 3 == 0 else sharing_book(chance)
            book, other = made(groups, operators, ties), SlowBook(groups, operators, ties)
            expected = text_with_two(other)
            self.assertEqual(two_readings(book), expected)
            seen[expected is None] += 1
        self.assertGreater(min(seen.values()), 20)

    def test_not_plain_shapes_do_not_count(self):
        groups = [Group("i"), Group("p", "prefix"), Group("q", "postfix")]
        book = Book(groups, [("_ ! _ ? _", "i"), ("_ + _", "i"), ("_ +", "q"), ("- _", "p")],
                    [("p", "i"), ("q", "i")])
        self.assertIsNone(two_readings(book))
        self.assertIsNone(two_readings(Book([], [])))
        self.assertEqual(two_readings(book=doubled()), "a ! ! a")


class TestParting(PartingsCase):
    def setUp(self):
        self.groups = [Group("m", side="left"), Group("p", side="left")]
        self.operators = [("_ * _", "m"), ("_ + _", "p")]

    def book(self, *ties):
        return Book(self.groups, self.operators, ties)

    def assert_parts(self, text, one, other):
        self.assertIs(type(text), str)
        self.assertEqual((how_many(one, text), how_many(other, text)), (1, 1))
        self.assertNotEqual(read(one, text), read(other, text))

    def test_two_levels(self):
        none, one, other = self.book(), self.book(("m", "p")), self.book(("p", "m"))
        self.assert_parts(parting(one, other), one, other)
        self.assert_parts(parting(other, one), one, other)
        for two in ((none, one), (one, none), (none, other), (other, none), (one, one), (none, none)):
            self.assertIsNone(parting(*two))

    def test_prefix_and_postfix(self):
        groups = [Group("p", "prefix"), Group("q", "postfix")]
        operators = [("- _", "p"), ("_ !", "q")]
        one, other = Book(groups, operators, [("p", "q")]), Book(groups, operators, [("q", "p")])
        text = parting(one, other)
        self.assertEqual(text, "- a !")
        self.assert_parts(text, one, other)

    def test_four_shapes_of_two_words(self):
        """The readings need not have the same shapes."""
        groups = [Group("v"), Group("w"), Group("p", "prefix"), Group("q", "postfix")]
        operators = [("_ + _", "v"), ("_ +", "q"), ("- _", "p"), ("_ - _", "w")]
        one, other = Book(groups, operators, [("p", "v")]), Book(groups, operators, [("q", "w")])
        self.assertEqual(parting(one, other), "a + - a")
        self.assert_parts("a + - a", one, other)
        self.assertEqual(parting(other, one), "a + - a")

    def test_shapes_of_many_words(self):
        groups = [Group("p", "prefix"), Group("q", "postfix"), Group("i", side="left")]
        operators = [("if _ then _ else _", "p"), ("_ [ _ , _ ]", "q"), ("_ ? _ : _", "i"), ("{ _ | _ }", None)]
        for pair in itertools.combinations("pqi", 2):
            one, other = Book(groups, operators, [pair]), Book(groups, operators, [pair[::-1]])
            self.assert_parts(parting(one, other), one, other)

    def test_words_that_are_all_the_letters(self):
        groups = [Group("m", side="left"), Group("p", side="left")]
        operators = [(f"_ {letter} _", "m" if letter < "n" else "p") for letter in LETTERS]
        one, other = Book(groups, operators, [("m", "p")]), Book(groups, operators, [("p", "m")])
        self.assert_parts(parting(one, other), one, other)

    def test_equal_ties_part_nothing(self):
        chance = random.Random(2)
        for _ in range(30):
            groups, operators, ties = random_book(chance, 12, 12, "+*-!?:[],.;<>=@#&")
            one, other = made(groups, operators, ties), made(groups, operators, list(slow.closed(ties)))
            if two_readings(one) is None:
                self.assertIsNone(parting(one, other))

    def test_unlike_books(self):
        one = self.book(("m", "p"))
        for other in (
            Book([], []), Book(self.groups, self.operators[:1], [("m", "p")]),
            Book([Group("m", side="right"), self.groups[1]], self.operators, [("m", "p")]),
            Book(self.groups + [Group("x")], self.operators, [("m", "p")]),
            Book(self.groups, [("_ * _", "p"), ("_ + _", "m")], [("m", "p")]),
            Book(self.groups, [("_ * _", "m"), ("_ / _", "p")], [("m", "p")]), doubled(),
        ):
            self.assert_unlike(parting, one, other)
            self.assert_unlike(parting, other, one)
        # This counts ahead of the texts with two readings.
        self.assert_unlike(parting, doubled(), doubled("right"))

    def test_texts_with_two_readings(self):
        groups = [Group("a"), Group("b"), Group("c", "prefix"), Group("d", "postfix")]
        operators = [("_ ! _", "a"), ("_ !", "d"), ("! _", "c"), ("_ + _", "b"), ("+ _", "c"), ("_ +", "d")]
        clear = Book(groups, operators)
        one = Book(groups, operators, [("c", "a"), ("d", "a")])
        other = Book(groups, operators, [("c", "b"), ("d", "b")])
        self.assertEqual((two_readings(one), two_readings(other)), ("a ! ! a", "a + + a"))
        self.assert_two("a ! ! a", parting, one, other)
        self.assert_two("a + + a", parting, other, one)
        self.assert_two("a ! ! a", parting, one, one)
        self.assert_two("a ! ! a", parting, clear, one)
        self.assert_two("a + + a", parting, other, clear)
        self.assertIsNone(parting(clear, clear))

    def test_all_texts_of_two_operators(self):
        chance = random.Random(3)
        seen = {True: 0, False: 0}
        for at in range(150):
            groups, operators, _ = random_book(chance) if at % 2 else sharing_book(chance)
            pairs = [pair for pair in itertools.permutations(groups, 2) if chance.random() < 0.5]
            sets = []
            for _ in range(2):
                order = chance.sample(list(groups), len(groups))
                sets.append([(a, b) for a, b in pairs if order.index(a) < order.index(b)])
            one, other = [made(groups, operators, ties) for ties in sets]
            texts = [two_readings(one), two_readings(other)]
            if texts != [None, None]:
                self.assert_two(texts[0] or texts[1], parting, one, other)
                continue
            first, second = [SlowBook(groups, operators, ties) for ties in sets]
            parted = False
            for text in texts_of_two(operators):
                words = text.split(" ")
                trees = [slow.all_trees(book, words) for book in (first, second)]
                parted = parted or len(trees[0]) == len(trees[1]) == 1 and trees[0] != trees[1]
            found = parting(one, other)
            self.assertEqual(found is not None, parted)
            self.assertEqual(parting(other, one) is not None, parted)
            seen[parted] += 1
            if found is not None:
                self.assert_parts(found, one, other)
        self.assertGreater(min(seen.values()), 15, seen)

    def test_random_texts_of_books_that_are_not_parted(self):
        """The fact that two bare trees are enough."""
        chance = random.Random(4)
        same = 0
        for _ in range(200):
            groups, operators, _ = random_book(chance, 4, 4)
            order = chance.sample(list(groups), len(groups))
            ties = [pair for pair in itertools.combinations(order, 2) if chance.random() < 0.6]
            fewer = [pair for pair in ties if chance.random() < 0.6]
            one, other = made(groups, operators, ties), made(groups, operators, fewer)
            if two_readings(one) is not None or parting(one, other) is not None:
                continue
            for _ in range(10):
                words = [chance.choice(["x", "(", ")", *sorted(SlowBook(groups, operators, ()).words)] + ["x"] * 3)
                         for _ in range(chance.randint(3, 7))]
                text = " ".join(words)
                if how_many(one, text) == how_many(other, text) == 1:
                    same += 1
                    self.assertEqual(read(one, text), read(other, text))
        self.assertGreater(same, 10)

    def test_by_name(self):
        one, other = self.book(("m", "p")), self.book(("p", "m"))
        self.assertEqual(parting(other=other, one=one), parting(one, other))

    def test_defined_here(self):
        for function in (least_operand, two_readings, parting):
            self.assertEqual(function.__module__, partings.__name__)


if __name__ == "__main__":
    unittest.main()
