import inspect
import itertools
import random
import unittest

from pairbinds import ties
from pairbinds.errors import (
    BindError, DuplicateName, InvalidName, InvalidNumber, Missing, Ring, TooMany, UnknownName, Unlike,
)
from pairbinds.shapes import Group
from pairbinds.ties import Ties
from slow import closed
from values import OTHERS

TWELVE = list("abcdefghijkl")


def random_pairs(chance, names, share):
    """Pairs of names without a ring, in any order, perhaps some of them twice."""
    order = list(names)
    chance.shuffle(order)
    pairs = [pair for pair in itertools.combinations(order, 2) if chance.random() < share]
    chance.shuffle(pairs)
    return pairs + pairs[:chance.randint(0, 2)]


class TiesCase(unittest.TestCase):
    def assert_raises(self, error, attribute, given, call, *arguments, **named):
        with self.assertRaises(error) as caught:
            call(*arguments, **named)
        self.assertIs(type(caught.exception), error)
        self.assertEqual(getattr(caught.exception, attribute), given)
        self.assertIs(type(getattr(caught.exception, attribute)), type(given))
        self.assertEqual(caught.exception.code, error.__name__)

    def assert_ring(self, pairs, call, *arguments):
        """A ring is raised, and each name in it is stated to bind tighter than the next one."""
        with self.assertRaises(Ring) as caught:
            call(*arguments)
        ring = caught.exception.ring
        self.assertIs(type(ring), tuple)
        self.assertGreater(len(ring), 0)
        self.assertEqual(len(set(ring)), len(ring))
        for pair in zip(ring, ring[1:] + ring[:1]):
            self.assertIn(pair, pairs)
        return ring


class TestClosure(TiesCase):
    def test_the_example(self):
        found = Ties(["a", "b", "c"], [("a", "b"), ("b", "c")])
        self.assertEqual(found.pairs(), [("a", "b"), ("a", "c"), ("b", "c")])

    def test_names_are_ascending(self):
        self.assertEqual(Ties(["c", "a", "b"]).names, ("a", "b", "c"))
        self.assertEqual(Ties(("sum", "mul", "abcdefgh")).names, ("abcdefgh", "mul", "sum"))
        self.assertEqual(Ties([]).names, ())
        self.assertIs(type(Ties(["a"]).names), tuple)
        self.assertIn("names", vars(Ties([])))

    def test_none_one_and_twelve_names(self):
        self.assertEqual((Ties([]).pairs(), Ties([]).needed(), Ties([]).levels()), ([], [], []))
        self.assertEqual((Ties(["a"]).pairs(), Ties(["a"]).levels()), ([], [["a"]]))
        chain = list(zip(TWELVE, TWELVE[1:]))
        self.assertEqual(Ties(TWELVE, chain[::-1]).pairs(), list(itertools.combinations(TWELVE, 2)))
        self.assertEqual(len(Ties(TWELVE, chain)), 66)

    def test_random_pairs(self):
        chance = random.Random(1)
        for _ in range(300):
            names = TWELVE[:chance.randint(0, 12)]
            pairs = random_pairs(chance, names, chance.choice([0.05, 0.2, 0.5, 1]))
            found = Ties(chance.sample(names, len(names)), pairs)
            self.assertEqual(found.pairs(), sorted(closed(pairs)))
            self.assertEqual(len(found), len(closed(pairs)))

    def test_a_pair_given_twice(self):
        self.assertEqual(Ties(["a", "b"], [("a", "b"), ("a", "b"), ["a", "b"]]).pairs(), [("a", "b")])

    def test_pairs_may_be_lists_and_lists_tuples(self):
        for names in (["a", "b", "c"], ("a", "b", "c")):
            for pairs in ([["a", "b"], ("b", "c")], (("a", "b"), ["b", "c"])):
                found = Ties(names, pairs)
                self.assertEqual(found.pairs(), [("a", "b"), ("a", "c"), ("b", "c")])
                self.assertTrue(all(type(pair) is tuple for pair in found.pairs() + found.needed()))
        self.assertEqual(Ties(["a", "b"]).with_ties(["a", "b"]).pairs(), [("a", "b")])

    def test_by_name(self):
        self.assertEqual(Ties(pairs=[("a", "b")], names=["a", "b"]).pairs(), [("a", "b")])
        found = Ties(["a", "b"], [("a", "b")])
        self.assertEqual((found.above(name="b"), found.below(name="a")), (["a"], ["b"]))
        self.assertIs(found.is_within(other=found), True)

    def test_arguments_are_copied_and_not_changed(self):
        names, pair = ["b", "a"], ["a", "b"]
        pairs = [pair]
        found = Ties(names, pairs)
        self.assertEqual((names, pairs), (["b", "a"], [["a", "b"]]))
        names.append("c")
        pair.reverse()
        pairs.append(("b", "a"))
        self.assertEqual((found.names, found.pairs(), found.needed()), (("a", "b"), [("a", "b")], [("a", "b")]))
        self.assertEqual(repr(found), "Ties(2 names, 1 ties)")

    def test_returned_lists_are_new(self):
        found = Ties(["a", "b", "c"], [("a", "b"), ("b", "c")])
        for call in (found.pairs, found.needed, found.levels, lambda: found.above("c"), lambda: found.below("a")):
            first = call()
            self.assertIs(type(first), list)
            kept = list(first)
            first.clear()
            self.assertEqual(call(), kept)
        level = found.levels()[0]
        level.append("z")
        self.assertEqual(found.levels(), [["a"], ["b"], ["c"]])


class TestErrors(TiesCase):
    def test_too_many_names(self):
        thirteen = TWELVE + ["m"]
        self.assertEqual(len(Ties(TWELVE).names), 12)
        for names in (thirteen, tuple(thirteen), ["a"] * 13, [None] * 13, [1] * 400, thirteen + ["A"]):
            for pairs in ((), [("y", "z")], [("a", "a")]):
                with self.assertRaises(TooMany) as caught:
                    Ties(names, pairs)
                self.assertEqual((caught.exception.subject, caught.exception.most), ("names", 12))

    def test_wrong_names(self):
        for value in OTHERS + ("+", "_", "a b", "abcdefghi"):
            self.assert_raises(InvalidName, "given", value, Ties, [value])
            self.assert_raises(InvalidName, "given", value, Ties, ["a", value, "A"], [("y", "z")])
            # A wrong name counts ahead of a name that is given twice, wherever they stand.
            self.assert_raises(InvalidName, "given", value, Ties, ["a", "a", value], [("a", "a")])

    def test_the_first_wrong_name_counts(self):
        self.assert_raises(InvalidName, "given", "B", Ties, ["a", "B", "C", "B"])
        self.assert_raises(InvalidName, "given", None, Ties, [None, "B"])

    def test_names_given_twice(self):
        self.assert_raises(DuplicateName, "name", "a", Ties, ["a", "a"])
        self.assert_raises(DuplicateName, "name", "b", Ties, ["a", "b", "b", "a"])
        self.assert_raises(DuplicateName, "name", "a", Ties, ["a", "b", "a", "b"])
        self.assert_raises(DuplicateName, "name", "a", Ties, ("a", "a"), [("y", "z"), ("a", "a")])

    def test_unknown_names(self):
        self.assert_raises(UnknownName, "name", "z", Ties, ["a", "b"], [("a", "b"), ("a", "z"), ("y", "a")])
        self.assert_raises(UnknownName, "name", "y", Ties, ["a", "b"], [("y", "z")])
        self.assert_raises(UnknownName, "name", "z", Ties, ["a", "b"], [["a", "z"]])
        self.assert_raises(UnknownName, "name", "a", Ties, [], [("a", "a")])
        self.assert_raises(UnknownName, "name", "", Ties, ["a"], [("a", "")])
        self.assertTrue(issubclass(UnknownName, Missing))

    def test_unknown_names_count_ahead_of_rings(self):
        for pairs in ([("a", "a"), ("a", "z")], [("a", "b"), ("b", "a"), ("z", "a")]):
            self.assert_raises(UnknownName, "name", "z", Ties, ["a", "b"], pairs)
            self.assert_raises(UnknownName, "name", "z", Ties(["a", "b"]).with_ties, *pairs)

    def test_rings_of_one_to_five_names(self):
        for many in range(1, 6):
            for order in itertools.permutations("abcde", many):
                pairs = list(zip(order, order[1:] + order[:1]))
                self.assertEqual(len(self.assert_ring(pairs, Ties, list("abcde"), pairs)), many)
                self.assert_ring(pairs, Ties, list("edcba"), [list(pair) for pair in pairs[::-1]])

    def test_rings_among_other_pairs(self):
        chance = random.Random(2)
        for _ in range(300):
            names = TWELVE[:chance.randint(1, 12)]
            pairs = [(chance.choice(names), chance.choice(names)) for _ in range(chance.randint(1, 14))]
            if any(one == other for one, other in closed(pairs)):
                self.assert_ring(pairs, Ties, names, pairs)
            else:
                self.assertEqual(Ties(names, pairs).pairs(), sorted(closed(pairs)))

    def test_rings_by_further_ties(self):
        chance = random.Random(3)
        for _ in range(300):
            names = TWELVE[:chance.randint(2, 8)]
            pairs = random_pairs(chance, names, 0.4)
            more = [(chance.choice(names), chance.choice(names)) for _ in range(chance.randint(1, 3))]
            found = Ties(names, pairs)
            if any(one == other for one, other in closed(pairs + more)):
                self.assert_ring(pairs + more, found.with_ties, *more)
            else:
                self.assertEqual(found.with_ties(*more).pairs(), sorted(closed(pairs + more)))
            self.assertEqual(found.pairs(), sorted(closed(pairs)))

    def test_equal_ties_raise_equal_rings(self):
        one = Ties(list("abc"), [("a", "b"), ("b", "c")])
        other = Ties(list("cba"), [("a", "c"), ("b", "c"), ("a", "b")])
        self.assertEqual(self.assert_ring([("a", "b"), ("b", "c"), ("c", "a")], one.with_ties, ("c", "a")),
                         self.assert_ring([("a", "b"), ("b", "c"), ("c", "a")], other.with_ties, ("c", "a")))


class TestNeeded(TiesCase):
    def test_the_fewest_pairs_of_all(self):
        chance = random.Random(4)
        for _ in range(60):
            names = "abcd"[:chance.randint(0, 4)]
            pairs = random_pairs(chance, names, 0.6)
            held = sorted(closed(pairs))
            sets = [some for many in range(len(held) + 1) for some in itertools.combinations(held, many)
                    if closed(some) == set(held)]
            fewest = [some for some in sets if len(some) == len(sets[0])]
            self.assertEqual(len(fewest), 1)
            self.assertEqual(Ties(list(names), pairs).needed(), list(fewest[0]))

    def test_larger_ones(self):
        chance = random.Random(5)
        for _ in range(60):
            pairs = random_pairs(chance, TWELVE, 0.3)
            found = Ties(TWELVE, pairs)
            needed = found.needed()
            self.assertEqual(needed, sorted(set(needed)))
            self.assertEqual(sorted(closed(needed)), found.pairs())
            for pair in needed:
                self.assertNotIn(pair, closed(set(needed) - {pair}))


class TestMore(TiesCase):
    def test_with_ties(self):
        found = Ties(["a", "b", "c"], [("a", "b")])
        self.assertEqual(found.with_ties(("b", "c")).pairs(), [("a", "b"), ("a", "c"), ("b", "c")])
        self.assertEqual(found.with_ties(["b", "c"], ("a", "b")).pairs(), [("a", "b"), ("a", "c"), ("b", "c")])
        self.assertEqual(found.with_ties().pairs(), [("a", "b")])
        self.assertIs(type(found.with_ties()), Ties)
        self.assertEqual(found.pairs(), [("a", "b")])

    def test_with_ties_does_not_change_its_arguments(self):
        pair = ["b", "c"]
        more = Ties(["a", "b", "c"]).with_ties(pair)
        self.assertEqual(pair, ["b", "c"])
        pair.reverse()
        self.assertEqual(more.pairs(), [("b", "c")])

    def test_above_and_below(self):
        chance = random.Random(6)
        for _ in range(50):
            names = TWELVE[:chance.randint(1, 12)]
            pairs = random_pairs(chance, names, 0.3)
            found, held = Ties(names, pairs), closed(pairs)
            for name in names:
                self.assertEqual(found.above(name), [one for one in names if (one, name) in held])
                self.assertEqual(found.below(name), [other for other in names if (name, other) in held])

    def test_above_and_below_of_other_values(self):
        found = Ties(["a", "b"], [("a", "b")])
        for value in OTHERS + ("c", "+", "ab", ("a", "b"), Group("a"), found):
            self.assert_raises(UnknownName, "name", value, found.above, value)
            self.assert_raises(UnknownName, "name", value, found.below, value)
            self.assert_raises(UnknownName, "name", value, Ties([]).above, value)

    def test_levels(self):
        self.assertEqual(Ties(list("abcd")).levels(), [["a", "b", "c", "d"]])
        self.assertEqual(Ties(list("dcba"), [("c", "a"), ("a", "b")]).levels(), [["c", "d"], ["a"], ["b"]])
        chance = random.Random(7)
        for _ in range(100):
            names = TWELVE[:chance.randint(0, 12)]
            pairs = random_pairs(chance, names, chance.choice([0.1, 0.3, 0.6]))
            levels, held = Ties(names, pairs).levels(), closed(pairs)
            self.assertEqual(sorted(sum(levels, [])), names)
            for at, level in enumerate(levels):
                self.assertEqual(level, sorted(level))
                for name in level:
                    above = {one for one in names if (one, name) in held}
                    self.assertLessEqual(above, set(sum(levels[:at], [])))
                    self.assertEqual(bool(above & set(levels[at - 1])) if at else bool(above), at > 0)


class TestOrders(TiesCase):
    def test_it_is_a_generator(self):
        found = Ties(["a"])
        self.assertTrue(inspect.isgeneratorfunction(Ties.orders))
        self.assertEqual(next(found.orders()), ("a",))

    def test_without_names(self):
        self.assertEqual(list(Ties([]).orders()), [()])

    def test_all_orders(self):
        chance = random.Random(8)
        for _ in range(60):
            names = "abcde"[:chance.randint(0, 5)]
            pairs = random_pairs(chance, names, chance.choice([0.1, 0.4, 0.8]))
            found, held = Ties(list(names), pairs), closed(pairs)
            orders = [order for order in itertools.permutations(names)
                      if all(order.index(one) < order.index(other) for one, other in held)]
            self.assertEqual(list(found.orders(most=1000)), orders)
            for most in (0, 1, 2, 5, len(orders), len(orders) + 1):
                self.assertEqual(list(found.orders(most=most)), orders[:most])
            self.assertEqual(list(found.orders()), orders[:24])
            # The fact: the ties are the pairs that stand in one order in all of them.
            self.assertEqual([pair for pair in itertools.permutations(names, 2)
                              if all(order.index(pair[0]) < order.index(pair[1]) for order in orders)],
                             found.pairs())

    def test_most_left_out(self):
        self.assertEqual(len(list(Ties(list("abcd")).orders())), 24)
        self.assertEqual(list(Ties(list("abcde")).orders()), list(itertools.permutations("abcde"))[:24])
        self.assertEqual(len(list(Ties(list("abcde")).orders(most=119))), 119)
        self.assertEqual(len(list(Ties(list("abcde")).orders(most=999999999))), 120)

    def test_twelve_names(self):
        self.assertEqual(list(Ties(TWELVE).orders(most=3)),
                         list(itertools.islice(itertools.permutations(TWELVE), 3)))
        chain = list(zip(TWELVE[::-1], TWELVE[-2::-1]))
        self.assertEqual(list(Ties(TWELVE, chain).orders(most=999999999)), [tuple(TWELVE[::-1])])

    def test_other_values(self):
        for value in OTHERS + (-1, -24, True, False, None, "1", [1], (1,)):
            if type(value) is int and value >= 0:
                continue
            for names in ([], ["a", "b"]):
                orders = Ties(names).orders(most=value)
                self.assert_raises(InvalidNumber, "given", value, next, orders)

    def test_most_is_keyword_only(self):
        with self.assertRaises(TypeError):
            list(Ties(["a"]).orders(1))

    def test_two_at_once(self):
        found = Ties(list("abc"))
        one, other = found.orders(), found.orders()
        pairs = [(next(one), next(other)) for _ in range(6)]
        self.assertTrue(all(first == second for first, second in pairs))
        self.assertEqual([first for first, _ in pairs], list(itertools.permutations("abc")))


class TestOperators(TiesCase):
    def test_random_ties(self):
        chance = random.Random(9)
        rings = 0
        for _ in range(200):
            names = TWELVE[:chance.randint(0, 5)]
            pairs, others = random_pairs(chance, names, 0.4), random_pairs(chance, names, 0.3)
            one, other = Ties(names, pairs), Ties(names[::-1], others)
            first, second = closed(pairs), closed(others)
            if any(left == right for left, right in closed(first | second)):
                rings += 1
                self.assert_ring(first | second, lambda: one | other)
            else:
                self.assertEqual((one | other).pairs(), sorted(closed(first | second)))
                self.assertIs(type(one | other), Ties)
            self.assertEqual((one & other).pairs(), sorted(first & second))
            self.assertEqual((-one).pairs(), sorted((right, left) for left, right in first))
            self.assertEqual((-one).names, one.names)
            self.assertIs(one.is_within(other), first <= second)
            self.assertIs(one == other, first == second)
            self.assertIs(one != other, first != second)
            self.assertEqual((one.pairs(), other.pairs()), (sorted(first), sorted(second)))
        self.assertGreater(rings, 10)

    def test_rings_of_both_are_stated(self):
        one = Ties(list("abcd"), [("a", "b"), ("b", "c"), ("c", "d")])
        other = Ties(list("abcd"), [("d", "a")])
        ring = self.assert_ring([("a", "b"), ("b", "c"), ("c", "d"), ("d", "a")], lambda: one | other)
        self.assertEqual(sorted(ring), list("abcd"))

    def test_other_names(self):
        one = Ties(["a", "b"], [("a", "b")])
        # The names count ahead of a ring that both would have.
        for other in (Ties([]), Ties(["a"]), Ties(["a", "b", "c"], [("b", "a")]), Ties(["a", "c"], [("c", "a")])):
            for call in (lambda: one | other, lambda: one & other, lambda: one.is_within(other),
                         lambda: other | one, lambda: other & one, lambda: other.is_within(one)):
                with self.assertRaises(Unlike) as caught:
                    call()
                self.assertEqual(caught.exception.code, "Unlike")
                self.assertIsInstance(caught.exception, BindError)
            self.assertIs(one == other, False)

    def test_is_within(self):
        one, other = Ties(list("abc"), [("a", "b")]), Ties(list("abc"), [("a", "b"), ("b", "c")])
        self.assertIs(one.is_within(other), True)
        self.assertIs(other.is_within(one), False)
        self.assertIs(one.is_within(one), True)
        self.assertIs(Ties(list("abc")).is_within(one), True)
        self.assertIs(Ties([]).is_within(Ties([])), True)

    def test_equality(self):
        one = Ties(["a", "b", "c"], [("a", "b"), ("b", "c")])
        self.assertIs(one == Ties(("c", "b", "a"), [["b", "c"], ["a", "b"], ["a", "c"]]), True)
        self.assertIs(one == Ties(["a", "b", "c"], [("a", "b")]), False)
        self.assertIs(Ties(["a"]) == Ties(["b"]), False)
        self.assertIs(Ties([]) == Ties([]), True)
        for value in OTHERS + (one.pairs(), one.names, (one.names, one.pairs()), repr(one), Group("a")):
            self.assertIs(one == value, False)
            self.assertIs(value == one, False)
            self.assertIs(one != value, True)

    def test_pairs_in_ties(self):
        found = Ties(["a", "b", "c"], [("a", "b"), ("b", "c")])
        for one, other in itertools.product("abcd", repeat=2):
            self.assertIs((one, other) in found, one < other < "d")
            self.assertIs([one, other] in found, False)
        for value in OTHERS + ("a", "ab", ("a",), ("a", "b", "c"), ("a", ["b"]), (["a"], ["b"]), (("a", "b"),),
                               [("a", "b")], ("a", None), (True, "b"), found, Group("a")):
            self.assertIs(value in found, False)
            self.assertIs(value in Ties([]), False)

    def test_len_and_repr(self):
        self.assertEqual((len(Ties([])), repr(Ties([]))), (0, "Ties(0 names, 0 ties)"))
        self.assertEqual((len(Ties(["a"])), repr(Ties(["a"]))), (0, "Ties(1 names, 0 ties)"))
        found = Ties(["a", "b", "c"], [("a", "b")])
        self.assertEqual((len(found), repr(found)), (1, "Ties(3 names, 1 ties)"))
        self.assertEqual(repr(found.with_ties(("b", "c"))), "Ties(3 names, 3 ties)")

    def test_methods_are_defined_in_the_class(self):
        self.assertEqual(Ties.__module__, ties.__name__)
        for name in ("__init__", "pairs", "needed", "with_ties", "above", "below", "levels", "orders", "__or__",
                     "__and__", "__neg__", "is_within", "__eq__", "__contains__", "__len__", "__repr__"):
            self.assertIn(name, vars(Ties))


if __name__ == "__main__":
    unittest.main()
