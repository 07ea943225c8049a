import itertools
import random
import unittest
from unittest import mock

from pairbinds import library as module
from pairbinds.books import Book
from pairbinds.errors import (
    BindError, Circular, DuplicateName, Full, InUse, InvalidCommand, InvalidLimit, InvalidName, InvalidShape,
    InvalidText, Missing, NoReading, NothingLeft, Ring, Shared, TooMany, TwoReadings, UnknownName, WrongKind,
)
from pairbinds.library import Library
from pairbinds.reading import read
from pairbinds.shapes import Group, Shape
from slow_library import MODULE_NAMES, STRANGE, TEXTS, SlowLibrary, random_command, told
from values import OTHERS

X, Y, Z = [("word", letter) for letter in "xyz"]
LETTERS = "abcdefghijklmnopqrstuvwxyz"
# Commands that make a module with sums and products, and one that uses it.
SUMS = (("module", "m"), ("group", "m", "mul infix left"), ("group", "m", "sum infix left"),
        ("operator", "m", "_ * _", "mul"), ("operator", "m", "_ + _", "sum"), ("tie", "m", "mul", "sum"))
USER = (("module", "n"), ("use", "n", "m"), ("group", "n", "neg prefix many"), ("operator", "n", "- _", "neg"),
        ("tie", "n", "neg", "mul"))
DOUBLED = (("module", "d"), ("group", "d", "v infix none"), ("group", "d", "w prefix once"),
           ("group", "d", "x postfix once"), ("operator", "d", "_ ! _", "v"), ("operator", "d", "! _", "w"),
           ("operator", "d", "_ !", "x"), ("tie", "d", "w", "v"), ("tie", "d", "x", "v"))
FOUR = tuple(("module", letter) for letter in "abcd")


def filled(*commands, limit=8):
    library = Library(limit=limit)
    library.apply(*commands)
    return library


def state(library):
    """All that can be asked of a library."""
    names = library.modules()
    return (names, [library.uses(name) for name in names], [library.said(name) for name in names],
            [(library.book(name).groups(), library.book(name).operators(), library.book(name).ties.pairs())
             for name in names], library.history(), library.kept(), library.computed, library.limit, library.busy)


class LibraryCase(unittest.TestCase):
    def assert_raises(self, error, attributes, call, *arguments, **named):
        with self.assertRaises(error) as caught:
            call(*arguments, **named)
        self.assertIs(type(caught.exception), error)
        self.assertEqual(vars(caught.exception), {"code": error.__name__, **attributes})
        for attribute, given in attributes.items():
            self.assertIs(type(getattr(caught.exception, attribute)), type(given))
        if error is not NothingLeft:
            self.assertIsInstance(caught.exception, Missing if error is UnknownName else BindError)

    def assert_refused(self, library, error, attributes, *commands):
        """Neither apply nor tried does any of the commands."""
        before = state(library)
        self.assert_raises(error, attributes, library.apply, *commands)
        self.assertEqual(state(library), before)
        self.assert_raises(error, attributes, library.tried, *commands, name=None, text=None)
        self.assertEqual(state(library), before)
        self.assertIs(library.busy, False)


class TestLimit(LibraryCase):
    def test_limits(self):
        self.assertEqual(Library().limit, 8)
        self.assertEqual(Library.MOST, 12)
        self.assertEqual(Library().MOST, 12)
        for value in range(1, 13):
            self.assertEqual(Library(limit=value).limit, value)
        for value in OTHERS + (0, 13, -1, True, False, None, "8", [8], (8,), 999999999):
            if type(value) is int and 1 <= value <= 12:
                continue
            self.assert_raises(InvalidLimit, {"given": value}, Library, limit=value)
            library = Library()
            self.assert_raises(InvalidLimit, {"given": value}, library.set_limit, value)
            self.assert_raises(InvalidLimit, {"given": value}, setattr, library, "limit", value)
            self.assertEqual(library.limit, 8)
        with self.assertRaises(TypeError):
            Library(8)

    def test_assigned(self):
        library = filled(*FOUR)
        for value in (12, 5, 4, 11):
            library.limit = value
            self.assertEqual(library.limit, value)
        for value in (1, 2, 3, 0):
            self.assert_raises(InvalidLimit, {"given": value}, library.set_limit, value)
            self.assert_raises(InvalidLimit, {"given": value}, setattr, library, "limit", value)
        self.assertIsNone(library.set_limit(value=4))
        self.assertEqual((library.limit, library.history()), (4, (1, 0)))
        self.assert_refused(library, Full, {"most": 4}, ("module", "e"))
        library.apply(("drop", "d"))
        library.limit = 3
        self.assert_refused(library, Full, {"most": 3}, ("module", "e"))

    def test_full(self):
        for limit in (1, 8, 12):
            library = Library(limit=limit)
            for letter in LETTERS[:limit]:
                library.apply(("module", letter))
            self.assertEqual(len(library), limit)
            self.assert_refused(library, Full, {"most": limit}, ("module", "z"))
            # The name counts ahead.
            self.assert_refused(library, DuplicateName, {"name": "a"}, ("module", "a"))
            self.assert_refused(library, InvalidName, {"given": "A"}, ("module", "A"))
            library.apply(("drop", "a"), ("module", "z"))
            self.assert_refused(library, Full, {"most": limit}, ("module", "a"), ("drop", "z"))

    def test_undo_and_redo_do_not_look_at_it(self):
        library = filled(*FOUR)
        library.apply(("drop", "a"), ("drop", "b"), ("drop", "c"))
        library.limit = 1
        library.undo()
        self.assertEqual((library.modules(), library.limit, library.history()), (list("abcd"), 1, (1, 1)))
        self.assert_raises(InvalidLimit, {"given": 3}, library.set_limit, 3)
        self.assert_raises(InvalidLimit, {"given": 1}, library.set_limit, 1)
        self.assert_refused(library, Full, {"most": 1}, ("module", "e"))
        library.apply(("group", "a", "g infix none"))
        self.assert_refused(library, Full, {"most": 1}, ("drop", "b"), ("drop", "c"), ("module", "c"))
        library.undo()
        library.undo()
        library.redo()
        self.assertEqual((library.modules(), library.limit), (list("abcd"), 1))
        library.limit = 4
        self.assertEqual(library.limit, 4)


class TestCommands(LibraryCase):
    def test_what_they_do(self):
        library = filled(*SUMS, *USER)
        groups = [Group("mul", side="left"), Group("sum", side="left")]
        operators = [("_ * _", "mul"), ("_ + _", "sum")]
        self.assertEqual(library.book("m"), Book(groups, operators, [("mul", "sum")]))
        self.assertEqual(library.book("n"), Book(groups + [Group("neg", "prefix", side="many")],
                                                 operators + [("- _", "neg")], [("mul", "sum"), ("neg", "mul")]))
        self.assertEqual((library.modules(), library.uses("m"), library.uses("n")), (["m", "n"], [], ["m"]))
        self.assertEqual((library.said("m"), library.said("n")), ([("mul", "sum")], [("neg", "mul")]))
        self.assertEqual((len(library), repr(library), library.history()), (2, "Library(2 modules)", (1, 0)))
        self.assertEqual(library.read("n", "- a * b"),
                         ("_ * _", ("- _", ("word", "a")), ("word", "b")))

    def test_nothing(self):
        library = Library()
        self.assertEqual((library.modules(), library.history(), library.kept(), library.computed, library.busy),
                         ([], (0, 0), [], 0, False))
        self.assertEqual((len(library), repr(library)), (0, "Library(0 modules)"))
        self.assertIsNone(library.apply())
        self.assertEqual(library.history(), (1, 0))
        self.assertIsNone(library.undo())
        self.assertIsNone(library.redo())
        self.assertEqual(library.history(), (1, 0))

    def test_values_that_are_no_commands(self):
        library = filled(("module", "m"))
        wrong = OTHERS + STRANGE + (
            "module", "module m", ["module", "q"], ("module",), ("module", "q", "r"), ("use", "m"),
            ("use", "m", "n", "o"), ("group", "m"), ("group", "m", "sum", "infix", "left"), ("drop",),
            ("operator", "m", "_ + _"), ("operator", "m", "_ + _", "sum", "left"), ("tie", "m", "a"),
            ("tie", "m", "a", "b", "c"), ("drop", "m", "n"),
            ("Module", "q"), ("module ", "q"), (None, "q"), (True, "q"), (("module",), "q"), (["module"], "q"),
            ("undo",), ("redo",), ("read", "m", "x"), ("", "q"), (("module", "q"),), (0, "m", "x"), ({}, "q"),
        )
        right = ("module", "q")
        for value in wrong:
            self.assert_refused(library, InvalidCommand, {"at": 0}, value)
            self.assert_refused(library, InvalidCommand, {"at": 1}, right, value)
            self.assert_refused(library, InvalidCommand, {"at": 2}, right, ("drop", "z"), value, None)
            # This counts ahead of the errors of all commands.
            self.assert_refused(library, InvalidCommand, {"at": 3}, ("module", "m"), ("module", "A"), right, value)
            self.assertNotIn("q", library)

    def test_any_values_as_items(self):
        library = filled(*SUMS)
        for value in OTHERS + STRANGE + (Group("a"), Shape("_ + _"), Book([], []), library):
            if not isinstance(value, str) or value in ("", "A", "abcdefghi") or " " in value:
                self.assert_refused(library, InvalidName, {"given": value}, ("module", value))
            for command in (("use", value, None), ("group", value, None), ("operator", value, None, None),
                            ("tie", value, None, None), ("drop", value)):
                self.assert_refused(library, UnknownName, {"name": value}, command)
            self.assert_refused(library, UnknownName, {"name": value}, ("use", "m", value))
            self.assert_refused(library, InvalidText, {"at": 0}, ("group", "m", value))
            if value != "_ +":
                self.assert_refused(library, InvalidShape, {"given": value}, ("operator", "m", value, "zzz"))
            if value is not None:
                self.assert_refused(library, UnknownName, {"name": value}, ("operator", "m", "_ - _", value))
            self.assert_refused(library, UnknownName, {"name": value}, ("tie", "m", value, "zzz"))
            self.assert_refused(library, UnknownName, {"name": value}, ("tie", "m", "sum", value))

    def test_modules(self):
        library = filled(("module", "m"))
        for value in ("", "A", "abcdefghi", "a b", "a1", "+", None, ["a"], ("m",)):
            self.assert_refused(library, InvalidName, {"given": value}, ("module", value))
        self.assert_refused(library, DuplicateName, {"name": "m"}, ("module", "m"))
        self.assert_refused(library, DuplicateName, {"name": "q"}, ("module", "q"), ("module", "q"))
        for name in ("a", "abcdefgh", "word", "none"):
            library.apply(("module", name))
        self.assertEqual(library.modules(), ["a", "abcdefgh", "m", "none", "word"])

    def test_uses(self):
        library = filled(*FOUR, ("use", "a", "b"), ("use", "b", "c"))
        for first, other, name in (("z", "y", "z"), ("z", "a", "z"), ("a", "z", "z")):
            self.assert_refused(library, UnknownName, {"name": name}, ("use", first, other))
        for name, other in (("a", "a"), ("b", "a"), ("c", "a"), ("c", "b"), ("d", "d")):
            self.assert_refused(library, Circular, {"name": name}, ("use", name, other))
        library.apply(("use", "a", "c"), ("use", "a", "b"), ("use", "d", "a"), ("use", "d", "c"))
        self.assertEqual([library.uses(name) for name in "abcd"], [["b", "c"], ["c"], [], ["a", "c"]])
        self.assert_refused(library, Circular, {"name": "c"}, ("use", "c", "d"))
        # Once more changes nothing, but it is a step.
        before = library.twin()
        library.apply(("use", "a", "b"))
        self.assertEqual((library == before, library.history()), (True, (3, 0)))
        library.undo()
        self.assertEqual(library.uses("a"), ["b", "c"])

    def test_groups(self):
        library = filled(("module", "a"), ("module", "b"), ("group", "a", "sum infix left"))
        for value in ("", "sum", "sum infix", "sum infix many", "sum  infix left", " sum infix left", "Sum infix left",
                      "sum infix left left", "x closed none", None, ["x", "infix", "left"], ("x infix left",)):
            self.assert_refused(library, InvalidText, {"at": 0}, ("group", "a", value))
        self.assert_refused(library, UnknownName, {"name": "z"}, ("group", "z", "bad"))
        for name in "ab":
            for text in ("sum infix left", "sum prefix once"):
                self.assert_refused(library, DuplicateName, {"name": "sum"}, ("group", name, text))
        library.apply(("drop", "a"), ("group", "b", "sum prefix once"))
        self.assertEqual(library.book("b").groups(), [Group("sum", "prefix")])

    def test_operators(self):
        library = filled(*SUMS, ("module", "q"), ("group", "q", "neg prefix once"), ("operator", "q", "[ _ ]", None))
        self.assert_refused(library, UnknownName, {"name": "z"}, ("operator", "z", "bad", "bad"))
        self.assert_refused(library, InvalidShape, {"given": "_"}, ("operator", "q", "_", "bad"))
        for name in "mq":
            for text in ("_ + _", "[ _ ]"):
                for group in ("sum", "bad", None, "neg"):
                    self.assert_refused(library, DuplicateName, {"name": text}, ("operator", name, text, group))
        for name, group in (("q", "sum"), ("m", "neg"), ("q", "bad"), ("m", "-")):
            self.assert_refused(library, UnknownName, {"name": group}, ("operator", name, "_ - _", group))
            self.assert_refused(library, UnknownName, {"name": group}, ("operator", name, "{ _ }", group))
        for name, text, group in (("q", "_ - _", "neg"), ("q", "_ - _", None), ("q", "- _", None),
                                  ("q", "{ _ }", "neg"), ("m", "- _", "sum"), ("m", "_ -", "sum"),
                                  ("m", "{ _ }", "mul")):
            self.assert_refused(library, WrongKind, {"name": group}, ("operator", name, text, group))
        library.apply(("use", "q", "m"), ("operator", "q", "_ - _", "sum"), ("operator", "q", "- _", "neg"),
                      ("operator", "q", "{ _ , _ }", None))
        self.assertEqual(library.book("q").group_of("_ - _"), "sum")
        self.assertEqual(library.book("m").operators(), [("_ * _", "mul"), ("_ + _", "sum")])
        # The group of m is that of q's operator still, so m cannot be dropped.
        self.assert_refused(library, InUse, {"user": "q"}, ("drop", "m"))

    def test_ties(self):
        library = filled(*SUMS, ("module", "q"), ("group", "q", "neg prefix once"))
        for command, name in (
            (("tie", "z", "y", "x"), "z"), (("tie", "q", "sum", "bad"), "sum"), (("tie", "q", "neg", "sum"), "sum"),
            (("tie", "m", "neg", "sum"), "neg"), (("tie", "m", "sum", "neg"), "neg"), (("tie", "m", "b", "c"), "b"),
        ):
            self.assert_refused(library, UnknownName, {"name": name}, command)
        library.apply(("use", "q", "m"), ("tie", "q", "sum", "neg"), ("tie", "q", "mul", "sum"))
        self.assertEqual((library.said("q"), library.said("m")), ([("mul", "sum"), ("sum", "neg")], [("mul", "sum")]))
        self.assertEqual(library.book("q").ties.pairs(), [("mul", "neg"), ("mul", "sum"), ("sum", "neg")])
        before = library.twin()
        library.apply(("tie", "q", "sum", "neg"))
        self.assertEqual((library == before, library.said("q")), (True, [("mul", "sum"), ("sum", "neg")]))
        first = library.said("q")
        first.clear()
        self.assertEqual(len(library.said("q")), 2)

    def test_drop(self):
        library = filled(*FOUR, ("use", "d", "a"), ("use", "b", "a"), ("use", "c", "b"))
        self.assert_refused(library, UnknownName, {"name": "z"}, ("drop", "z"))
        self.assert_refused(library, InUse, {"user": "b"}, ("drop", "a"))
        self.assert_refused(library, InUse, {"user": "c"}, ("drop", "b"))
        library.apply(("drop", "c"), ("drop", "b"))
        self.assert_refused(library, InUse, {"user": "d"}, ("drop", "a"))
        library.apply(("drop", "d"), ("drop", "a"))
        self.assertEqual(library.modules(), [])

    def test_all_or_none(self):
        library = filled(*SUMS)
        self.assert_refused(library, UnknownName, {"name": "z"}, ("module", "q"), ("group", "q", "x infix none"),
                            ("operator", "q", "_ - _", "x"), ("tie", "q", "x", "x"), ("drop", "z"), ("module", "A"))
        library.apply(("module", "q"), ("drop", "q"), ("module", "q"))
        self.assertEqual(library.modules(), ["m", "q"])

    def test_equal_calls(self):
        one, other = filled(*SUMS, *USER), filled(*SUMS, *USER)
        self.assertEqual(state(one), state(other))
        other = Library()
        for command in SUMS + USER:
            other.apply(command)
        self.assertEqual(one, other)
        self.assertEqual(other.history(), (11, 0))


class TestBooks(LibraryCase):
    def test_questions_about_no_module(self):
        library = filled(*SUMS)
        for value in OTHERS + STRANGE + ("n", "M", ("m",), ["m"]):
            for call in (library.uses, library.said, library.book, lambda name: library.read(name, "x"),
                         lambda name: library.read(name, None), lambda name: library.tried(name=name, text=None)):
                self.assert_raises(UnknownName, {"name": value}, call, value)
            self.assertIs(value in library, False)
        self.assertIs("m" in library, True)
        self.assertEqual((library.uses(name="m"), library.said(name="m"), len(library.book(name="m"))),
                         ([], [("mul", "sum")], 2))
        self.assertEqual(library.read(text="x", name="m"), X)

    def test_modules_that_use_one_another(self):
        library = filled(*FOUR, ("use", "b", "a"), ("use", "c", "b"), ("use", "d", "a"))
        library.apply(("group", "a", "x infix left"), ("group", "b", "y prefix once"), ("group", "c", "z postfix once"),
                      ("operator", "a", "_ + _", "x"), ("operator", "c", "_ - _", "x"), ("operator", "c", "_ !", "z"),
                      ("tie", "c", "z", "y"), ("tie", "b", "y", "x"))
        x, y, z = Group("x", side="left"), Group("y", "prefix"), Group("z", "postfix")
        self.assertEqual(library.book("a"), Book([x], [("_ + _", "x")]))
        self.assertEqual(library.book("b"), Book([x, y], [("_ + _", "x")], [("y", "x")]))
        self.assertEqual(library.book("c"), Book([x, y, z], [("_ + _", "x"), ("_ - _", "x"), ("_ !", "z")],
                                                 [("z", "y"), ("y", "x")]))
        self.assertEqual(library.book("d"), library.book("a"))

    def test_a_module_used_on_two_ways(self):
        library = filled(*FOUR, ("use", "b", "a"), ("use", "c", "a"), ("use", "d", "b"), ("use", "d", "c"),
                         ("group", "a", "x infix left"), ("operator", "a", "_ + _", "x"))
        self.assertEqual(library.book("d"), library.book("a"))

    def test_too_many_groups(self):
        groups = [("group", "a", letter + " infix none") for letter in LETTERS[:13]]
        library = filled(("module", "a"), *groups[:12])
        self.assertEqual(len(library.book("a").groups()), 12)
        self.assert_refused(library, TooMany, {"subject": "groups", "most": 12}, groups[12])
        library.apply(("module", "b"), ("group", "b", "z infix none"))
        self.assert_refused(library, TooMany, {"subject": "groups", "most": 12}, ("use", "b", "a"))
        library.apply(("module", "c"), ("use", "c", "b"))
        self.assert_refused(library, TooMany, {"subject": "groups", "most": 12}, ("use", "c", "a"))

    def test_too_many_operators(self):
        words = [one + other for one in "abcdef" for other in "abcdef"]
        commands = [("operator", "a", f"_ {word} _", "x") for word in words[:30]]
        library = filled(("module", "a"), ("group", "a", "x infix none"), *commands)
        self.assertEqual(len(library.book("a")), 30)
        self.assert_refused(library, TooMany, {"subject": "operators", "most": 30}, ("operator", "a", "{ _ }", None))
        library.apply(("module", "b"), ("operator", "b", "{ _ }", None))
        self.assert_refused(library, TooMany, {"subject": "operators", "most": 30}, ("use", "b", "a"))
        self.assert_refused(library, TooMany, {"subject": "operators", "most": 30}, ("use", "a", "b"))

    def test_shared_words(self):
        library = filled(("module", "a"), ("module", "b"), ("operator", "a", "[ _ ]", None))
        self.assert_refused(library, Shared, {"word": "["}, ("operator", "a", "[ _ , _ }", None))
        library.apply(("operator", "b", "{ _ ]", None))
        for command in (("use", "a", "b"), ("use", "b", "a")):
            self.assert_refused(library, Shared, {"word": "]"}, command)
        library.apply(("module", "c"), ("use", "c", "a"))
        self.assert_refused(library, Shared, {"word": "]"}, ("use", "c", "b"))

    def test_rings(self):
        library = filled(*SUMS, *USER)
        for commands, names in (
            ([("tie", "m", "sum", "mul")], {"mul", "sum"}), ([("tie", "m", "sum", "sum")], {"sum"}),
            ([("tie", "n", "sum", "neg")], {"neg", "mul", "sum"}), ([("tie", "n", "mul", "neg")], {"neg", "mul"}),
        ):
            before = state(library)
            with self.assertRaises(Ring) as caught:
                library.apply(*commands)
            self.assertEqual(set(caught.exception.ring), names)
            self.assertEqual(len(caught.exception.ring), len(names))
            self.assertEqual(state(library), before)

    def test_a_ring_of_two_modules_that_are_used(self):
        """Each of them is right alone."""
        library = filled(*FOUR, ("group", "a", "x infix none"), ("group", "a", "y infix none"), ("use", "b", "a"),
                         ("use", "c", "a"), ("tie", "b", "x", "y"), ("tie", "c", "y", "x"), ("use", "d", "b"))
        with self.assertRaises(Ring) as caught:
            library.apply(("use", "d", "c"))
        self.assertEqual((set(caught.exception.ring), library.uses("d")), ({"x", "y"}, ["b"]))

    def test_each_command_is_right_alone(self):
        library = filled(("module", "a"), ("module", "b"), ("use", "b", "a"), ("group", "a", "x infix none"),
                         ("group", "a", "y infix none"))
        twin = library.twin()
        twin.apply(("tie", "a", "x", "y"))
        twin.undo()
        twin.apply(("tie", "b", "y", "x"))
        with self.assertRaises(Ring):
            library.apply(("tie", "a", "x", "y"), ("tie", "b", "y", "x"))
        self.assertEqual((library.said("a"), library.said("b"), library.history()), ([], [], (1, 0)))

    def test_the_least_module_counts(self):
        library = filled(*FOUR, ("operator", "c", "[ _ ]", None))
        broken = [("operator", "b", "{ _ }", None), ("operator", "b", "{ _ , _ ;", None),
                  ("operator", "d", "< _ >", None), ("operator", "d", "< _ , _ ;", None)]
        for order in itertools.permutations(broken):
            self.assert_refused(library, Shared, {"word": "{"}, *order)
        self.assert_refused(library, Shared, {"word": "<"}, *broken[2:], ("operator", "a", "| _ |!", None))
        # An error of a command counts ahead of those of the books.
        self.assert_refused(library, InvalidShape, {"given": "_"}, *broken, ("operator", "a", "_", None))
        # A module that uses a broken one, and has a lesser name, is broken itself.
        self.assert_refused(library, Shared, {"word": "<"}, ("use", "a", "d"), *broken[2:])

    def test_the_first_error_of_a_book_counts(self):
        """Groups and operators in ascending order, whatever the order of the commands is."""
        library = filled(("module", "a"))
        commands = [("operator", "a", shape, None) for shape in ("- _ |", "; _ - _ :", "< _ : _ ;")]
        for order in itertools.permutations(commands):
            self.assert_refused(library, Shared, {"word": "-"}, *order)

    def test_broken_between_and_whole_behind(self):
        library = filled(*SUMS)
        library.apply(("module", "q"), ("use", "q", "m"), ("tie", "q", "sum", "mul"),
                      ("operator", "q", "[ _ + _ ]", None), ("drop", "q"))
        self.assertEqual((library.modules(), library.history()), (["m"], (2, 0)))
        many = [("group", "q", letter + " infix none") for letter in LETTERS[:13]]
        library.apply(("module", "q"), *many, ("operator", "q", "_ ? _", "m"), ("tie", "q", "m", "a"), ("drop", "q"))
        self.assertEqual(library.modules(), ["m"])
        # The groups and operators of the broken module count while it is there.
        self.assert_refused(library, DuplicateName, {"name": "m"}, ("module", "q"), *many,
                            ("group", "m", "m prefix once"))
        library.apply(("module", "q"), *many, ("drop", "q"), ("group", "m", "a prefix once"))
        self.assertEqual([group.name for group in library.book("m").groups()], ["a", "mul", "sum"])


class TestHistory(LibraryCase):
    def test_nothing_left(self):
        library = Library()
        self.assert_raises(NothingLeft, {}, library.undo)
        self.assert_raises(NothingLeft, {}, library.redo)
        library.apply(*SUMS)
        self.assert_raises(NothingLeft, {}, library.redo)
        library.undo()
        self.assert_raises(NothingLeft, {}, library.undo)
        self.assertEqual((library.modules(), library.history()), ([], (0, 1)))
        library.redo()
        self.assertEqual((library.modules(), library.history()), (["m"], (1, 0)))
        self.assert_raises(NothingLeft, {}, library.redo)
        try:
            library.redo()
        except IndexError as error:
            self.assertNotIsInstance(error, (BindError, Missing))

    def test_to_the_beginning_and_back(self):
        library = Library()
        states = [library.twin()]
        for command in SUMS + USER:
            library.apply(command)
            states.append(library.twin())
        for at in reversed(range(len(states) - 1)):
            library.undo()
            self.assertEqual(library, states[at])
            self.assertEqual(library.history(), (at, len(states) - 1 - at))
        for at in range(1, len(states)):
            library.redo()
            self.assertEqual(library, states[at])
        self.assertEqual(library.history(), (11, 0))

    def test_a_step_behind_an_undo(self):
        library = filled(*SUMS)
        library.apply(*USER)
        library.undo()
        self.assertEqual(library.history(), (1, 1))
        # A step that is not made leaves what can be redone.
        self.assert_refused(library, UnknownName, {"name": "z"}, ("drop", "z"))
        self.assertEqual(library.history(), (1, 1))
        library.tried(("module", "z"), name="z", text="x")
        self.assertEqual(library.history(), (1, 1))
        library.apply()
        self.assertEqual(library.history(), (2, 0))
        self.assert_raises(NothingLeft, {}, library.redo)
        library.undo()
        library.undo()
        self.assertEqual((library.modules(), library.history()), ([], (0, 2)))

    def test_a_call_of_several_commands_is_one_step(self):
        library = filled(*SUMS, *USER)
        self.assertEqual(library.history(), (1, 0))
        library.undo()
        self.assertEqual(library.modules(), [])


class TestReadings(LibraryCase):
    def test_read(self):
        library = filled(*SUMS, *USER, *DOUBLED)
        tree = ("_ + _", X, ("_ * _", Y, Z))
        for _ in range(2):
            self.assertEqual(library.read("m", "x + y * z"), tree)
            self.assertEqual(library.read("n", "x + y * z"), tree)
            self.assert_raises(NoReading, {"at": 2}, library.read, "m", "x +")
            self.assert_raises(TwoReadings, {"text": "x ! ! y"}, library.read, "d", "x ! ! y")
            self.assert_raises(InvalidText, {"at": 1}, library.read, "m", "x  y")
            self.assert_raises(InvalidText, {"at": 60}, library.read, "m", " ".join(["("] * 61))
            self.assertEqual(library.computed, 6)
        self.assertEqual(library.kept(), [("d", "x ! ! y"), ("m", " ".join(["("] * 61)), ("m", "x  y"), ("m", "x +"),
                                          ("m", "x + y * z"), ("n", "x + y * z")])
        library.kept().clear()
        self.assertEqual(len(library.kept()), 6)
        self.assertEqual(library.history(), (1, 0))

    def test_values_that_are_no_strings(self):
        library = filled(*SUMS)
        for value in OTHERS:
            if isinstance(value, str):
                continue
            self.assert_raises(InvalidText, {"at": 0}, library.read, "m", value)
            self.assert_raises(InvalidText, {"at": 0}, library.tried, name="m", text=value)
        self.assertEqual((library.kept(), library.computed), ([], 0))

    def test_kept_over_steps(self):
        library = filled(*SUMS, *USER, *DOUBLED)
        texts = [("d", "x ! ! y"), ("d", "x"), ("m", "x + y"), ("m", "x +"), ("n", "- x"), ("n", "")]

        def read_all():
            for name, text in texts:
                told(library.read, name, text)

        def assert_left(*names):
            self.assertEqual(library.kept(), sorted([pair for pair in texts if pair[0] in names]))

        read_all()
        self.assertEqual(library.computed, 6)
        library.apply()
        assert_left("d", "m", "n")
        library.apply(("module", "z"), ("operator", "z", "[ _ ]", None))
        assert_left("d", "m", "n")
        library.apply(("tie", "n", "neg", "sum"))
        # This tie was there by the closure, so the book is equal.
        assert_left("d", "m", "n")
        self.assertEqual(library.computed, 6)
        library.undo()
        library.redo()
        assert_left("d", "m", "n")
        library.apply(("group", "n", "new infix none"))
        assert_left("d", "m")
        read_all()
        self.assertEqual(library.computed, 8)
        library.undo()
        assert_left("d", "m")
        read_all()
        self.assertEqual(library.computed, 10)
        library.apply(("operator", "m", "_ - _", "sum"))
        assert_left("d")
        library.undo()
        read_all()
        self.assertEqual(library.computed, 14)
        library.apply(("use", "d", "n"))
        assert_left("m", "n")
        library.undo()
        library.redo()
        assert_left("m", "n")
        library.undo()
        library.apply(("drop", "d"))
        assert_left("m", "n")
        library.undo()
        assert_left("m", "n")

    def test_over_a_step_that_makes_a_module_again(self):
        library = filled(*SUMS, *USER)
        library.read("m", "x + y")
        library.read("n", "- x")
        library.apply(("drop", "n"), *USER)
        self.assertEqual(library.kept(), [("m", "x + y"), ("n", "- x")])
        library.apply(("drop", "n"), ("drop", "m"), *SUMS)
        self.assertEqual(library.kept(), [("m", "x + y")])
        library.undo()
        self.assertEqual(library.kept(), [("m", "x + y")])
        library.apply(("drop", "n"), *USER[:-1])
        self.assertEqual(library.kept(), [("m", "x + y")])
        self.assertEqual(library.computed, 2)
        # In two steps it is dropped between them.
        library.read("n", "- x")
        library.apply(("drop", "n"))
        library.apply(*USER[:-1])
        self.assertEqual((library.kept(), library.computed), ([("m", "x + y")], 3))

    def test_another_module_with_this_name(self):
        """Only the book counts: it is equal, though other modules say its parts."""
        library = filled(*SUMS, ("module", "q"), ("use", "q", "m"))
        library.read("q", "x + y")
        library.apply(("drop", "q"), ("drop", "m"), ("module", "q"), *[(one, "q", *rest) for one, _, *rest in SUMS[1:]])
        self.assertEqual((library.modules(), library.kept(), library.computed), (["q"], [("q", "x + y")], 1))
        library.undo()
        self.assertEqual(library.kept(), [("q", "x + y")])

    def test_a_step_that_is_not_made_drops_nothing(self):
        library = filled(*SUMS)
        library.read("m", "x")
        for commands in ([("group", "m", "q infix none"), ("drop", "z")], [("drop", "m"), None],
                         [("tie", "m", "sum", "mul")]):
            told(library.apply, *commands)
            self.assertEqual((library.kept(), library.computed), ([("m", "x")], 1))

    def test_kept_readings_are_not_computed_again(self):
        """A kept reading is told even where computing it would not end the same way."""
        library = filled(*SUMS)
        text = " + ".join(["x"] * 30)
        first = library.read("m", text)
        self.assertEqual((library.read("m", text), library.computed), (first, 1))
        self.assertEqual(first, read(library.book("m"), text))

    def test_errors_are_new(self):
        library = filled(*SUMS)
        errors = []
        for _ in range(2):
            with self.assertRaises(NoReading) as caught:
                library.read("m", "x +")
            errors.append(caught.exception)
            caught.exception.at = 99
        self.assertIsNot(errors[0], errors[1])
        self.assert_raises(NoReading, {"at": 2}, library.read, "m", "x +")


class TestTried(LibraryCase):
    def test_tried(self):
        library = filled(*SUMS)
        library.read("m", "x")
        before = state(library)
        self.assertEqual(library.tried(name="m", text="x + y"), ("_ + _", X, Y))
        self.assertEqual(library.tried(*USER, name="n", text="- x + y"), ("_ + _", ("- _", X), Y))
        self.assertEqual(library.tried(("operator", "m", "_ - _", "sum"), text="x - y + z", name="m"),
                         ("_ + _", ("_ - _", X, Y), Z))
        self.assert_raises(NoReading, {"at": 1}, library.tried, name="m", text="x - y")
        self.assert_raises(TwoReadings, {"text": "x ! ! x"}, library.tried, *DOUBLED, name="d", text="x ! ! x")
        self.assert_raises(InvalidText, {"at": 1}, library.tried, *DOUBLED, name="d", text="x X")
        self.assert_raises(InvalidText, {"at": 0}, library.tried, *DOUBLED, name="d", text=None)
        self.assert_raises(UnknownName, {"name": "m"}, library.tried, ("drop", "m"), name="m", text="x")
        self.assert_raises(UnknownName, {"name": "n"}, library.tried, name="n", text=None)
        self.assert_raises(UnknownName, {"name": ["m"]}, library.tried, name=["m"], text="x  x")
        self.assertEqual(state(library), before)
        self.assert_raises(Shared, {"word": "+"}, library.tried, ("operator", "m", "[ _ + _ ]", None), name="z",
                           text=None)
        self.assertEqual(state(library), before)

    def test_the_limit_counts(self):
        library = Library(limit=1)
        self.assertEqual(library.tried(("module", "a"), name="a", text="x"), X)
        self.assert_raises(Full, {"most": 1}, library.tried, ("module", "a"), ("module", "b"), name="a", text="x")

    def test_only_by_name(self):
        with self.assertRaises(TypeError):
            filled(*SUMS).tried()


class TestBusy(LibraryCase):
    def test_while_commands_are_done(self):
        library = filled(*SUMS)
        told_busy = []
        done = module.do_command

        def looked_at(*arguments):
            told_busy.append(library.busy)
            done(*arguments)

        with mock.patch.object(module, "do_command", looked_at):
            library.apply(*USER)
            self.assertIs(library.busy, False)
            with self.assertRaises(UnknownName):
                library.apply(("module", "z"), ("drop", "y"))
            self.assertIs(library.busy, False)
            with self.assertRaises(Ring):
                library.apply(("tie", "m", "sum", "sum"))
        self.assertEqual((told_busy, library.busy), ([True] * 8, False))


class TestTwin(LibraryCase):
    def test_a_twin_goes_its_own_way(self):
        library = filled(*SUMS, limit=3)
        library.apply(*USER)
        library.read("m", "x")
        library.read("n", "- x")
        library.undo()
        twin = library.twin()
        self.assertIs(type(twin), Library)
        self.assertEqual(state(twin), state(library))
        self.assertEqual(twin, library)
        self.assertEqual(twin.history(), (1, 1))
        twin.redo()
        self.assertEqual((twin.modules(), library.modules()), (["m", "n"], ["m"]))
        self.assertEqual((twin.history(), library.history()), ((2, 0), (1, 1)))
        twin.read("n", "- x")
        self.assertEqual((twin.kept(), library.kept()), ([("m", "x"), ("n", "- x")], [("m", "x")]))
        self.assertEqual((twin.computed, library.computed), (3, 2))
        library.limit = 1
        self.assertEqual(twin.limit, 3)
        library.apply(("drop", "m"))
        self.assertEqual((twin.history(), library.history()), ((2, 0), (2, 0)))
        self.assertEqual((len(twin), len(library), twin.kept(), library.kept()), (2, 0, twin.kept(), []))
        twin.undo()
        twin.undo()
        self.assertEqual((twin.modules(), library.history()), ([], (2, 0)))
        library.undo()
        self.assertEqual(library.modules(), ["m"])

    def test_a_limit_below_the_number_of_modules(self):
        library = filled(("module", "a"), ("module", "b"))
        library.apply(("drop", "a"))
        library.limit = 1
        library.undo()
        twin = library.twin()
        self.assertEqual((twin.limit, twin.modules(), twin.history()), (1, ["a", "b"], (1, 1)))
        twin.redo()
        self.assertEqual(twin.modules(), ["b"])

    def test_equality(self):
        library = filled(*SUMS, *USER)
        one = filled(*SUMS, *USER, ("tie", "n", "neg", "sum"))
        for groups, operators in itertools.product(itertools.permutations(SUMS[1:3]),
                                                   itertools.permutations(SUMS[3:5])):
            other = filled(SUMS[0], *groups, *operators, SUMS[5], *USER, limit=12)
            self.assertIs(other == library, True)
            other.undo()
            other.apply(SUMS[0], *groups, *operators, SUMS[5], *USER[:-1], ("tie", "n", "neg", "sum"), USER[-1])
            self.assertIs(other == one, True)
        other = library.twin()
        other.apply()
        other.read("m", "x")
        other.limit = 11
        self.assertIs(other == library, True)
        self.assertIs(other != library, False)
        for commands in ([("module", "z")], [("group", "m", "z infix none")], [("operator", "m", "[ _ ]", None)],
                         [("tie", "n", "neg", "sum")], [("tie", "n", "mul", "sum")],
                         [("module", "z"), ("use", "z", "m")], [("drop", "n")]):
            other = library.twin()
            other.apply(*commands)
            self.assertIs(other == library, False)
            other.undo()
            self.assertIs(other == library, True)
        # The books are equal, but the uses are not.
        one = filled(("module", "a"), ("module", "b"), ("module", "c"), ("use", "b", "a"), ("use", "c", "b"))
        other = one.twin()
        other.apply(("use", "c", "a"))
        self.assertEqual([one.book(name) for name in "abc"], [other.book(name) for name in "abc"])
        self.assertIs(one == other, False)
        one = filled(("module", "a"), ("module", "b"), ("use", "b", "a"), ("group", "a", "g infix none"))
        other = one.twin()
        other.apply(("operator", "b", "_ + _", "g"))
        one.apply(("operator", "a", "_ + _", "g"))
        self.assertEqual(one.book("b"), other.book("b"))
        self.assertIs(one == other, False)
        for value in OTHERS + (library.modules(), repr(library), library.book("m")):
            self.assertIs(library == value, False)
            self.assertIs(value == library, False)
        self.assertIs(Library() == Library(limit=1), True)

    def test_methods_are_defined_in_the_class(self):
        self.assertEqual(Library.__module__, module.__name__)
        for name in ("__init__", "MOST", "limit", "set_limit", "apply", "undo", "redo", "history", "busy", "modules",
                     "uses", "said", "book", "read", "kept", "computed", "tried", "twin", "__eq__", "__contains__",
                     "__len__", "__repr__"):
            self.assertIn(name, vars(Library))
        for name in ("limit", "busy", "computed"):
            self.assertIsInstance(vars(Library)[name], property)


class TestRandomLibraries(LibraryCase):
    def assert_same(self, library, slow):
        names = slow.modules()
        self.assertEqual((library.modules(), library.history(), library.kept(), library.computed, library.limit),
                         (names, slow.history(), slow.kept(), slow.computed, slow.limit))
        self.assertEqual((len(library), repr(library)), (len(names), f"Library({len(names)} modules)"))
        self.assertIs(library.busy, False)
        for name in names:
            self.assertEqual((library.uses(name), library.said(name), library.book(name)),
                             (slow.uses(name), slow.said(name), slow.book(name)))
            self.assertIn(name, library)

    def step(self, library, slow, chance):
        """The same call on both."""
        kind = chance.random()
        if kind < 0.55:
            many = chance.choice([1, 1, 1, 1, 2, 3, 0])
            commands = [random_command(chance, library) for _ in range(many)]
            if chance.random() < 0.02:
                commands.append(chance.choice([None, ("module",), ["module", "q"], ("tie", "a", "b")]))
            results = told(library.apply, *commands), told(slow.apply, *commands)
        elif kind < 0.75:
            name, text = chance.choice(MODULE_NAMES), chance.choice(TEXTS)
            results = told(library.read, name, text), told(slow.read, name, text)
        elif kind < 0.85:
            name, text = chance.choice(MODULE_NAMES), chance.choice(TEXTS)
            commands = [random_command(chance, library) for _ in range(chance.choice([0, 1, 2]))]
            results = (told(library.tried, *commands, name=name, text=text),
                       told(slow.tried, *commands, name=name, text=text))
        elif kind < 0.95:
            word = chance.choice(["undo", "undo", "redo"])
            results = told(getattr(library, word)), told(getattr(slow, word))
        else:
            value = chance.choice([1, 2, 3, 5, 6, 8, 12, 13, None])
            results = told(library.set_limit, value), told(slow.set_limit, value)
        self.assertEqual(*results)
        return results[0][1] if results[0][0] == "raised" else "returned"

    def test_random_calls(self):
        seen = {}
        for seed in range(120):
            chance = random.Random(seed)
            library, slow = Library(), SlowLibrary()
            for _ in range(120):
                result = self.step(library, slow, chance)
                seen[result] = seen.get(result, 0) + 1
                self.assert_same(library, slow)
            twin = library.twin()
            self.assertEqual((twin, state(twin)), (library, state(library)))
        for error in (Circular, DuplicateName, Full, InUse, InvalidCommand, InvalidLimit, InvalidName, InvalidShape,
                      InvalidText, NoReading, NothingLeft, Ring, Shared, UnknownName, WrongKind):
            self.assertGreater(seen.get(error.__name__, 0), 10, seen)
        self.assertGreater(seen["returned"], 1000, seen)

    def test_equality_of_random_libraries(self):
        chance = random.Random(99)
        libraries = []
        for _ in range(60):
            library, slow = Library(), SlowLibrary()
            for _ in range(6):
                command = chance.choice([("module", "a"), ("module", "b"), ("use", "b", "a"), ("tie", "a", "p", "p"),
                                         ("group", "a", "p infix left"), ("operator", "b", "[ _ ]", None)])
                self.assertEqual(told(library.apply, command), told(slow.apply, command))
            libraries.append((library, slow))
        same = 0
        for (one, slow), (other, slow_other) in itertools.combinations(libraries, 2):
            self.assertIs(one == other, slow.mods == slow_other.mods)
            same += slow.mods == slow_other.mods
        self.assertGreater(same, 10)


if __name__ == "__main__":
    unittest.main()
