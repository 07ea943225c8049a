import itertools
import random
import unittest

from pairbinds import wishes as module
from pairbinds.books import Book
from pairbinds.errors import BindError, InvalidNumber, InvalidTree, Missing, Ring, Unfit, UnknownName
from pairbinds.shapes import Group
from pairbinds.ties import Ties
from pairbinds.wishes import Answer, Broken, Ringed, Settled, Wishes
from slow import SlowBook, closed, random_book
from test_books import slow_needs, tree_for
from test_trees import WRONG, with_part
from values import OTHERS, made

A, B, C, X, Y, Z = [("word", letter) for letter in "abcxyz"]
NAMES = "abcd"
SIGNS = {"a": "^", "b": "*", "c": "+", "d": "<"}


def book_of(ties=()):
    """A book with four infix groups, and one of each other kind."""
    groups = [Group(name) for name in NAMES] + [Group("n", "prefix"), Group("p", "postfix")]
    operators = [(f"_ {SIGNS[name]} _", name) for name in NAMES]
    return Book(groups, operators + [("- _", "n"), ("_ !", "p"), ("[ _ , _ ]", None), ("_ mod _", "b")], ties)


def tree_of(one, other):
    """A tree that needs one tie."""
    return (f"_ {SIGNS[other]} _", X, (f"_ {SIGNS[one]} _", Y, Z))


class SlowWishes:
    """What is wished, by numbers, and what follows from it straight from the document."""

    def __init__(self, book):
        self.book = book
        self.rows = {}
        self.last = 0

    def add(self, word, thing):
        self.last += 1
        self.rows[self.last] = (word, thing)
        return self.last

    def links(self):
        found = set()
        for number, (word, thing) in self.rows.items():
            pairs = [thing] if word == "said" else slow_needs(self.book, thing) if word == "shown" else []
            found |= {(*pair, number) for pair in pairs}
        return found

    def least(self):
        return closed({link[:2] for link in self.links()})

    def has_ring(self):
        return any(one == other for one, other in self.least())

    def fitting(self):
        """The numbers of the barred trees that fit with the least ties, with their needs."""
        found = {}
        for number, (word, thing) in self.rows.items():
            if word == "barred":
                needs = slow_needs(self.book, thing)
                if isinstance(needs, list) and set(needs) <= self.least():
                    found[number] = needs
        return found

    def is_chain(self, chain, one, other):
        return (bool(chain) and chain[0][0] == one and chain[-1][1] == other and set(chain) <= self.links()
                and all(before[1] == behind[0] for before, behind in zip(chain, chain[1:])))


class WishesCase(unittest.TestCase):
    def assert_raises(self, error, attribute, given, call, *arguments, **named):
        with self.assertRaises(error) as caught:
            call(*arguments, **named)
        self.assertIs(type(caught.exception), error)
        self.assertEqual(getattr(caught.exception, attribute), given)
        self.assertIs(type(getattr(caught.exception, attribute)), type(given))
        self.assertEqual(caught.exception.code, error.__name__)
        self.assertIsInstance(caught.exception, Missing if error is UnknownName else BindError)

    def assert_settled(self, wishes, pairs):
        answer = wishes.answer()
        self.assertIs(type(answer), Settled)
        self.assertEqual((answer.told(), repr(answer)), ("settled", "Answer(settled)"))
        self.assertIs(type(answer.ties), Ties)
        self.assertEqual(answer.ties.pairs(), sorted(closed(pairs)))
        self.assertIs(answer.holds(wishes), True)

    def assert_ringed(self, wishes):
        answer = wishes.answer()
        self.assertIs(type(answer), Ringed)
        self.assertEqual((answer.told(), repr(answer)), ("ringed", "Answer(ringed)"))
        self.assertEqual(answer.chain()[0][0], answer.chain()[-1][1])
        self.assertIs(answer.holds(wishes), True)
        return answer

    def assert_broken(self, wishes, number):
        answer = wishes.answer()
        self.assertIs(type(answer), Broken)
        self.assertEqual(answer.number, number)
        self.assertEqual((answer.told(), repr(answer)), (f"broken {number}", f"Answer(broken {number})"))
        self.assertIs(answer.holds(wishes), True)
        return answer


class TestWishes(WishesCase):
    def test_of_the_document(self):
        wishes = Wishes(Book([Group("a"), Group("b")], [("_ * _", "a"), ("_ + _", "b")]))
        number = wishes.shown(("_ + _", X, ("_ * _", Y, Z)))
        self.assertEqual((number, wishes.answer().ties.pairs()), (1, [("a", "b")]))

    def test_no_wishes(self):
        for book in (book_of(), book_of([("a", "b")]), Book([], [])):
            wishes = Wishes(book)
            self.assertEqual((len(wishes), repr(wishes), wishes.wishes()), (0, "Wishes(0 wishes)", []))
            self.assert_settled(wishes, [])
            self.assertEqual(wishes.answer().ties, Ties(book.ties.names))
            self.assertEqual(wishes.book(), Book(book.groups(), book.operators()))

    def test_numbers(self):
        wishes = Wishes(book_of())
        self.assertEqual(wishes.said("a", "b"), 1)
        self.assertEqual(wishes.shown(tree_of("b", "c")), 2)
        self.assertEqual(wishes.barred(tree_of("c", "d")), 3)
        self.assertEqual(wishes.said("a", "b"), 4)
        self.assertEqual((len(wishes), repr(wishes)), (4, "Wishes(4 wishes)"))
        self.assertEqual(wishes.wishes(), [(1, "said", ("a", "b")), (2, "shown", tree_of("b", "c")),
                                           (3, "barred", tree_of("c", "d")), (4, "said", ("a", "b"))])
        self.assertIsNone(wishes.drop(4))
        self.assertIsNone(wishes.drop(2))
        self.assertEqual([row[0] for row in wishes.wishes()], [1, 3])
        self.assertEqual((len(wishes), repr(wishes)), (2, "Wishes(2 wishes)"))
        self.assertEqual(wishes.barred(X), 5)
        wishes.drop(5)
        self.assertEqual(wishes.shown(X), 6)
        self.assertEqual([row[0] for row in wishes.wishes()], [1, 3, 6])
        for number in (1, 3, 6):
            wishes.drop(number)
        self.assertEqual((len(wishes), wishes.wishes(), wishes.said("c", "c")), (0, [], 7))

    def test_kinds_of_what_is_told(self):
        wishes = Wishes(book_of())
        self.assertIs(type(wishes.said("a", "b")), int)
        wishes.shown(tree_of("a", "b"))
        rows = wishes.wishes()
        self.assertIs(type(rows), list)
        self.assertTrue(all(type(row) is tuple and type(row[2]) is tuple for row in rows))
        rows.clear()
        self.assertEqual(len(wishes.wishes()), 2)

    def test_rounds_are_kept(self):
        wishes = Wishes(book_of())
        tree = ("round", ("_ + _", ("round", X), ("round", tree_of("d", "a"))))
        wishes.shown(tree)
        wishes.barred(tree)
        self.assertEqual(wishes.wishes(), [(1, "shown", tree), (2, "barred", tree)])
        self.assertEqual(wishes.answer().chains(), [[("d", "a", 1)]])

    def test_drop(self):
        wishes = Wishes(book_of())
        for _ in range(3):
            wishes.said("a", "b")
        wishes.drop(2)
        for value in OTHERS + (2, 0, -1, 4, True, False, None, "1", [1], (1,), (1, "said", ("a", "b")), 999999999):
            if type(value) is int and value in (1, 3):
                continue
            self.assert_raises(InvalidNumber, "given", value, wishes.drop, value)
            self.assertEqual(len(wishes), 2)
        wishes.drop(number=1)
        self.assert_raises(InvalidNumber, "given", 1, wishes.drop, 1)
        wishes.drop(3)
        self.assertEqual(wishes.said(other="b", one="a"), 4)

    def test_said(self):
        wishes = Wishes(book_of())
        for value in OTHERS + ("e", "ab", "+", ("a", "b"), ["a"]):
            for call in (wishes.said, wishes.chain):
                self.assert_raises(UnknownName, "name", value, call, value, "z")
                self.assert_raises(UnknownName, "name", value, call, "a", value)
                self.assert_raises(UnknownName, "name", value, call, value, None)
        self.assertEqual((len(wishes), wishes.said("a", "b")), (0, 1))

    def test_shown(self):
        wishes = Wishes(book_of())
        whole = ("_ + _", ("- _", ("- _", X)), ("_ * _", X, Y))
        for value in WRONG:
            for call in (wishes.shown, wishes.barred):
                self.assert_raises(InvalidTree, "path", (), call, value)
                self.assert_raises(InvalidTree, "path", (1, 0), call, with_part(whole, (1, 0), value))
        for tree, path in ((whole, (0, 0)), (("_ ? _", X, Y), ()), (("- _", ("word", "mod")), (0,)),
                           (("_ * _", X, ("_ mod _", X, Y)), (1,)), (("round", ("_ !", ("_ !", X))), (0, 0))):
            self.assert_raises(Unfit, "path", path, wishes.shown, tree)
        self.assertEqual((len(wishes), wishes.shown(tree=X)), (0, 1))
        self.assertEqual(wishes.barred(tree=whole), 2)

    def test_the_ties_of_the_book_do_not_count(self):
        wishes = Wishes(book_of([("a", "b"), ("b", "c")]))
        self.assert_settled(wishes, [])
        self.assertIsNone(wishes.chain("a", "b"))
        wishes.barred(tree_of("a", "b"))
        self.assert_settled(wishes, [])
        wishes.said("b", "a")
        self.assert_settled(wishes, [("b", "a")])
        self.assertEqual(wishes.book(), book_of([("b", "a")]))

    def test_book(self):
        book = book_of([("d", "a")])
        wishes = Wishes(book)
        wishes.said("a", "b")
        wishes.shown(("_ + _", ("- _", ("_ * _", X, Y)), ("_ !", X)))
        pairs = [("a", "b"), ("n", "c"), ("p", "c"), ("b", "n")]
        self.assertEqual(wishes.book(), book_of(pairs))
        # A barred tree that fits is no ring.
        wishes.barred(tree_of("a", "c"))
        self.assertIs(type(wishes.answer()), Broken)
        self.assertEqual(wishes.book(), book_of(pairs))
        self.assertEqual(book, book_of([("d", "a")]))

    def test_book_with_a_ring(self):
        for many in range(1, 5):
            for order in itertools.permutations(NAMES, many):
                pairs = list(zip(order, order[1:] + order[:1]))
                wishes = Wishes(book_of())
                for one, other in pairs:
                    if one == other or order[0] == "b":
                        wishes.said(one, other)
                    else:
                        wishes.shown(tree_of(one, other))
                wishes.said("n", order[0])
                wishes.said(order[-1], "p")
                with self.assertRaises(Ring) as caught:
                    wishes.book()
                ring = caught.exception.ring
                self.assertEqual(len(set(ring)), many)
                self.assertLessEqual(set(zip(ring, ring[1:] + ring[:1])), set(pairs))
                self.assertEqual(caught.exception.code, "Ring")
                answer = self.assert_ringed(wishes)
                self.assertEqual({link[:2] for link in answer.chain()}, set(pairs))
                for number in range(1, many + 1):
                    fewer = wishes.twin()
                    fewer.drop(number)
                    self.assertIs(type(fewer.answer()), Settled)
                    self.assertIs(answer.holds(fewer), False)

    def test_chain(self):
        wishes = Wishes(book_of())
        wishes.said("a", "b")
        wishes.shown(tree_of("b", "c"))
        wishes.barred(tree_of("c", "d"))
        self.assertEqual(wishes.chain("a", "b"), [("a", "b", 1)])
        self.assertEqual(wishes.chain("b", "c"), [("b", "c", 2)])
        self.assertEqual(wishes.chain("a", "c"), [("a", "b", 1), ("b", "c", 2)])
        for one, other in (("c", "d"), ("b", "a"), ("a", "a"), ("n", "p"), ("a", "d")):
            self.assertIsNone(wishes.chain(one, other))
        wishes.said("c", "a")
        self.assertEqual(wishes.chain("a", "a"), [("a", "b", 1), ("b", "c", 2), ("c", "a", 4)])
        self.assertEqual(wishes.chain(other="a", one="b"), [("b", "c", 2), ("c", "a", 4)])
        wishes.said("n", "n")
        self.assertEqual(wishes.chain("n", "n"), [("n", "n", 5)])
        wishes.drop(2)
        self.assertIsNone(wishes.chain("a", "c"))
        first = wishes.chain("a", "b")
        first.clear()
        self.assertEqual(wishes.chain("a", "b"), [("a", "b", 1)])

    def test_twin(self):
        wishes = Wishes(book_of())
        wishes.said("a", "b")
        wishes.said("b", "c")
        wishes.drop(2)
        other = wishes.twin()
        self.assertIs(type(other), Wishes)
        self.assertEqual((other.wishes(), len(other)), (wishes.wishes(), 1))
        self.assertEqual(other.said("b", "d"), 3)
        self.assertEqual(wishes.shown(X), 3)
        wishes.drop(1)
        self.assertEqual(other.wishes(), [(1, "said", ("a", "b")), (3, "said", ("b", "d"))])
        self.assertEqual(wishes.wishes(), [(3, "shown", X)])
        other.drop(3)
        self.assertEqual((wishes.wishes(), other.said("a", "c"), wishes.said("a", "c")),
                         ([(3, "shown", X)], 4, 4))
        self.assertEqual(other.book(), book_of([("a", "b"), ("a", "c")]))

    def test_two_wishes_about_one_book(self):
        book = book_of()
        one, other = Wishes(book), Wishes(book=book)
        one.said("a", "b")
        self.assertEqual((len(one), len(other)), (1, 0))


class TestAnswers(WishesCase):
    def test_the_base_class(self):
        answer = Answer()
        self.assertEqual((answer.told(), repr(answer)), ("open", "Answer(open)"))
        for wishes in (Wishes(book_of()), Wishes(Book([], []))):
            self.assertIs(answer.holds(wishes), False)
        self.assertIs(answer.holds(wishes=wishes), False)
        for kind in (Settled, Ringed, Broken):
            self.assertEqual(kind.__bases__, (Answer,))

    def test_settled(self):
        wishes = Wishes(book_of())
        names = book_of().ties.names
        wishes.said("a", "b")
        wishes.shown(tree_of("b", "c"))
        wishes.barred(tree_of("c", "d"))
        wishes.barred(("- _", ("- _", X)))
        self.assert_settled(wishes, [("a", "b"), ("b", "c")])
        right = [("a", "b"), ("b", "c")]
        for pairs in ([], right[:1], right[1:], right + [("c", "d")], [("b", "a"), ("c", "b")], [("a", "c")]):
            self.assertIs(Settled(Ties(names, pairs)).holds(wishes), False)
        for pairs in (right, right + [("a", "c")]):
            self.assertIs(Settled(ties=Ties(names, pairs)).holds(wishes=wishes), True)
        for other in (("a", "b", "c"), names + ("z",)):
            self.assertIs(Settled(Ties(other, right)).holds(wishes), False)
        self.assertIs(Settled(Ties([])).holds(wishes), False)
        for add in (lambda: wishes.said("c", "a"), lambda: wishes.said("n", "n"), lambda: wishes.said("c", "d"),
                    lambda: wishes.barred(tree_of("a", "c")), lambda: wishes.barred(X)):
            answer = wishes.answer()
            number = add()
            for pairs in (right, right + [("c", "d")]):
                self.assertIs(Settled(Ties(names, pairs)).holds(wishes), False)
            wishes.drop(number)
            self.assertIs(answer.holds(wishes), True)

    def test_broken_by_a_tree_without_needs(self):
        for tree in (X, ("round", X), ("_ + _", X, Y), ("_ + _", ("round", ("_ + _", X, Y)), X),
                     ("[ _ , _ ]", ("_ + _", X, Y), ("- _", X)), ("- _", ("round", ("- _", X)))):
            wishes = Wishes(book_of())
            wishes.barred(tree)
            self.assertEqual(self.assert_broken(wishes, 1).chains(), [])
            self.assertIs(Broken(1, []).holds(wishes), True)
            self.assertIs(Broken(1, ()).holds(wishes), True)
            wishes.said("a", "b")
            for chains in ([[]], [[("a", "b", 2)]], [[("a", "a", 1)]]):
                self.assertIs(Broken(1, chains).holds(wishes), False)
            for number in (0, 2, 3, -1):
                self.assertIs(Broken(number, []).holds(wishes), False)
            wishes.said("b", "a")
            self.assert_ringed(wishes)
            self.assertIs(Broken(1, []).holds(wishes), False)

    def test_broken_by_needs_that_follow(self):
        wishes = Wishes(book_of())
        wishes.said("a", "b")
        wishes.shown(tree_of("b", "c"))
        barred = wishes.barred(("_ + _", ("_ * _", X, Y), ("_ ^ _", Y, Z)))
        chains = [[("a", "b", 1), ("b", "c", 2)], [("b", "c", 2)]]
        self.assertEqual(self.assert_broken(wishes, barred).chains(), chains)
        self.assertIs(Broken(number=barred, chains=chains).holds(wishes), True)
        self.assertIs(Broken(barred, tuple(tuple(chain) for chain in chains)).holds(wishes), True)
        for wrong in (
            [], chains[:1], chains[1:], chains[::-1], chains + chains[:1], chains + [[]], [[], chains[1]],
            [chains[0], []], [chains[0][:1], chains[1]], [chains[0][1:], chains[1]], [chains[0][::-1], chains[1]],
            [chains[0] + chains[1], chains[1]], [[("a", "c", 1)], chains[1]], [[("a", "c", 3)], chains[1]],
            [[("a", "b", 2), ("b", "c", 2)], chains[1]], [[("a", "b", 1), ("b", "c", 1)], chains[1]],
            [chains[0], [("b", "c", 3)]], [chains[0], [("c", "b", 2)]], [chains[0], [("b", "c", 4)]],
            [[("b", "a", 1), ("b", "c", 2)], chains[1]], [[("a", "b", 0), ("b", "c", 2)], chains[1]],
            [chains[0], [("b", "c", -2)]], [chains[0], [("", "", 0)]], [[("a", "b", 1)] * 2 + chains[0][1:], chains[1]],
        ):
            self.assertIs(Broken(barred, wrong).holds(wishes), False, wrong)
        for number in (0, 1, 2, 4, -3):
            self.assertIs(Broken(number, chains).holds(wishes), False)
            self.assertIs(Broken(number, []).holds(wishes), False)
        again = wishes.said("b", "c")
        self.assertIs(Broken(barred, [chains[0], [("b", "c", again)]]).holds(wishes), True)
        wishes.drop(2)
        self.assertIs(Broken(barred, chains).holds(wishes), False)
        self.assertIs(Broken(barred, [[("a", "b", 1), ("b", "c", again)], [("b", "c", again)]]).holds(wishes), True)
        wishes.drop(barred)
        self.assertIs(Broken(barred, chains).holds(wishes), False)
        self.assert_settled(wishes, [("a", "b"), ("b", "c")])

    def test_chains_that_go_round(self):
        """A chain may come to a name more than once only if there is a ring."""
        wishes = Wishes(book_of())
        wishes.said("a", "b")
        wishes.said("b", "a")
        wishes.barred(tree_of("a", "b"))
        self.assert_ringed(wishes)
        self.assertIs(Broken(3, [[("a", "b", 1)]]).holds(wishes), False)
        one, other = ("a", "b", 1), ("b", "a", 2)
        for chain in ([one, other], [other, one], [one, other, one, other], [other, one] * 5, (one, other)):
            self.assertIs(Ringed(chain).holds(wishes), True)
        for chain in ([], (), [one], [other], [one, one], [one, other, one], [("a", "a", 1)], [("a", "b", 2), other],
                      [one, ("b", "a", 1)], [one, ("b", "a", 3)], [("a", "b", 3), ("b", "a", 3)], [one, other, other]):
            self.assertIs(Ringed(chain).holds(wishes), False, chain)
        wishes.drop(2)
        self.assertIs(Ringed([one, other]).holds(wishes), False)
        self.assert_broken(wishes, 3)

    def test_a_barred_tree_that_cannot_fit(self):
        for tree in (("- _", ("- _", X)), ("_ ? _", X, Y), ("word", "mod"), ("_ * _", ("_ mod _", X, Y), Z),
                     ("_ + _", ("_ * _", X, Y), ("_ + _", X, Y))):
            wishes = Wishes(book_of())
            for one, other in itertools.combinations("abcd", 2):
                wishes.said(one, other)
            self.assertEqual(wishes.barred(tree), 7)
            self.assertIs(type(wishes.answer()), Settled)
            for chains in ([], [[("b", "c", 4)]], [[]]):
                self.assertIs(Broken(7, chains).holds(wishes), False)

    def test_ringed_by_one_name(self):
        wishes = Wishes(book_of())
        wishes.said("c", "c")
        self.assertEqual(self.assert_ringed(wishes).chain(), [("c", "c", 1)])
        self.assertIs(Ringed(chain=[("c", "c", 1)]).holds(wishes), True)
        self.assertIs(Ringed([("a", "a", 1)]).holds(wishes), False)
        self.assertIs(Settled(Ties(book_of().ties.names)).holds(wishes), False)

    def test_ringed_by_one_tree(self):
        wishes = Wishes(book_of())
        wishes.shown(("_ + _", X, ("_ * _", Y, ("_ + _", Y, Z))))
        self.assertEqual(sorted(self.assert_ringed(wishes).chain()), [("b", "c", 1), ("c", "b", 1)])

    def test_answers_copy_what_they_are_given(self):
        chain = [("a", "b", 1), ("b", "a", 2)]
        chains = [[("a", "b", 1)], [("b", "a", 2)]]
        ringed, broken = Ringed(chain), Broken(5, chains)
        chain.clear()
        chains[0].clear()
        chains.pop()
        self.assertEqual(ringed.chain(), [("a", "b", 1), ("b", "a", 2)])
        self.assertEqual(broken.chains(), [[("a", "b", 1)], [("b", "a", 2)]])
        ringed.chain().clear()
        broken.chains()[0].clear()
        broken.chains().clear()
        self.assertEqual(ringed.chain(), [("a", "b", 1), ("b", "a", 2)])
        self.assertEqual(broken.chains(), [[("a", "b", 1)], [("b", "a", 2)]])
        self.assertEqual((broken.number, broken.told(), ringed.told()), (5, "broken 5", "ringed"))

    def test_tuples_become_lists(self):
        self.assertEqual(Ringed((("a", "b", 1),)).chain(), [("a", "b", 1)])
        self.assertEqual(Ringed(()).chain(), [])
        self.assertEqual(Broken(1, ((("a", "b", 1),), ())).chains(), [[("a", "b", 1)], []])
        self.assertEqual(Broken(1, ()).chains(), [])
        self.assertEqual(Broken(-7, []).told(), "broken -7")

    def test_the_constructors_check_nothing(self):
        ties = Ties(["x"])
        self.assertEqual(Settled(ties).ties, ties)
        self.assertEqual(Ringed([("", "", -5)]).chain(), [("", "", -5)])
        self.assertEqual(repr(Broken(0, [[("q", "r", 0)]])), "Answer(broken 0)")

    def test_answers_about_other_wishes(self):
        one, other = Wishes(book_of()), Wishes(Book([Group("a"), Group("b")], []))
        for wishes in (one, other):
            wishes.said("a", "b")
        self.assertIs(one.answer().holds(other), False)
        one.said("b", "a")
        answer = one.answer()
        self.assertIs(answer.holds(other), False)
        other.said("b", "a")
        self.assertIs(answer.holds(other), True)

    def test_equal_calls_on_equal_states(self):
        def filled():
            wishes = Wishes(book_of())
            wishes.said("a", "b")
            wishes.said("b", "c")
            wishes.said("a", "c")
            wishes.barred(tree_of("a", "c"))
            return wishes
        for add in (lambda wishes: None, lambda wishes: wishes.said("c", "a"), lambda wishes: wishes.drop(4)):
            one, other = filled(), filled()
            add(one)
            add(other)
            third = one.twin()
            for wishes in (one, other, third):
                self.assertEqual(wishes.answer().told(), one.answer().told())
                self.assertEqual(wishes.chain("a", "c"), one.chain("a", "c"))
                if isinstance(one.answer(), Broken):
                    self.assertEqual(wishes.answer().chains(), one.answer().chains())
                if isinstance(one.answer(), Ringed):
                    self.assertEqual(wishes.answer().chain(), one.answer().chain())

    def test_methods_are_defined_in_the_classes(self):
        for kind, names in (
            (Answer, ("told", "holds", "__repr__")),
            (Settled, ("__init__", "ties", "told", "holds", "__repr__")),
            (Ringed, ("__init__", "chain", "told", "holds", "__repr__")),
            (Broken, ("__init__", "number", "chains", "told", "holds", "__repr__")),
            (Wishes, ("__init__", "said", "shown", "barred", "drop", "wishes", "answer", "chain", "book", "twin",
                      "__len__", "__repr__")),
        ):
            self.assertEqual(kind.__module__, module.__name__)
            self.assertLessEqual(set(names), set(vars(kind)))
        self.assertIsInstance(vars(Settled)["ties"], property)
        self.assertIsInstance(vars(Broken)["number"], property)


class TestRandomWishes(WishesCase):
    def check(self, wishes, slow, chance):
        self.assertEqual(wishes.wishes(), [(number, *slow.rows[number]) for number in sorted(slow.rows)])
        names = sorted(slow.book.groups)
        for one, other in itertools.product(names, repeat=2):
            chain = wishes.chain(one, other)
            if (one, other) in slow.least():
                self.assertTrue(slow.is_chain(chain, one, other))
            else:
                self.assertIsNone(chain)
        fitting = slow.fitting()
        answer = wishes.answer()
        self.assertIs(answer.holds(wishes), True)
        if slow.has_ring():
            self.assertIs(type(answer), Ringed)
            self.assertTrue(slow.is_chain(answer.chain(), answer.chain()[0][0], answer.chain()[0][0]))
            with self.assertRaises(Ring) as caught:
                wishes.book()
            ring = caught.exception.ring
            self.assertEqual(len(set(ring)), len(ring))
            self.assertLessEqual(set(zip(ring, ring[1:] + ring[:1])), {link[:2] for link in slow.links()})
            return "ringed"
        self.assertEqual(wishes.book().ties.pairs(), sorted(slow.least()))
        if fitting:
            self.assertIs(type(answer), Broken)
            needs = fitting[answer.number]
            self.assertEqual(len(answer.chains()), len(needs))
            for chain, (one, other) in zip(answer.chains(), needs):
                self.assertTrue(slow.is_chain(chain, one, other))
            self.check_bent(answer, wishes, slow, chance)
            return "broken"
        self.assertIs(type(answer), Settled)
        self.assertEqual(answer.ties.pairs(), sorted(slow.least()))
        return "settled"

    def check_bent(self, answer, wishes, slow, chance):
        """Chains with links left out, put in, turned and exchanged hold just where the document says so."""
        for _ in range(6):
            chains = answer.chains()
            number = answer.number if chance.random() < 0.8 else chance.choice([*slow.rows, 0, 99])
            if chains:
                chain = chance.choice(chains)
                link = chance.choice(sorted(slow.links()))
                at = chance.randrange(len(chain))
                chance.choice([lambda: chain.pop(at), lambda: chain.insert(at, link), lambda: chain.reverse(),
                               lambda: chain.__setitem__(at, link), lambda: chains.reverse(), lambda: chains.pop(),
                               lambda: chain.__setitem__(at, (*chain[at][:2], chance.choice([*slow.rows, 0]))),
                               lambda: chain.extend([link]), lambda: None])()
            needs = slow.fitting().get(number)
            right = needs is not None and len(needs) == len(chains) and all(
                slow.is_chain(chain, *need) for chain, need in zip(chains, needs))
            self.assertIs(Broken(number, chains).holds(wishes), right)
            for chain in chains:
                if chain:
                    self.assertIs(Ringed(chain).holds(wishes), False)

    def test_random_wishes(self):
        chance = random.Random(1)
        seen = {"settled": 0, "broken": 0, "ringed": 0}
        for _ in range(150):
            groups, operators, ties = random_book(chance)
            slow = SlowWishes(SlowBook(groups, operators, ties))
            if not slow.book.operators:
                continue
            wishes = Wishes(made(groups, operators, ties))
            order = sorted(groups)
            for _ in range(12):
                kind = chance.choice(["said", "shown", "shown", "barred", "barred", "drop"])
                if kind == "said":
                    pair = tuple(chance.choice(order) for _ in range(2))
                    pair = tuple(sorted(pair)) if pair[0] != pair[1] or chance.random() < 0.9 else pair
                    if pair[0] == pair[1] and chance.random() < 0.9:
                        continue
                    self.assertEqual(wishes.said(*pair), slow.add("said", pair))
                elif kind == "drop":
                    number = chance.randint(0, slow.last + 1)
                    if number in slow.rows:
                        wishes.drop(number)
                        del slow.rows[number]
                    else:
                        self.assert_raises(InvalidNumber, "given", number, wishes.drop, number)
                else:
                    tree = tree_for(chance, slow.book, chance.randint(1, 7))
                    needs = slow_needs(slow.book, tree)
                    if kind == "barred":
                        self.assertEqual(wishes.barred(tree), slow.add("barred", tree))
                    elif isinstance(needs, tuple):
                        self.assert_raises(Unfit, "path", needs, wishes.shown, tree)
                    else:
                        self.assertEqual(wishes.shown(tree), slow.add("shown", tree))
                seen[self.check(wishes, slow, chance)] += 1
        self.assertGreater(min(seen.values()), 30, seen)


if __name__ == "__main__":
    unittest.main()
