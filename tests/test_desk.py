import random
import unittest

from pairbinds import desk as module
from pairbinds.desk import Desk
from pairbinds.library import Library
from pairbinds.reading import read, stuck
from pairbinds.trees import full_text
from slow_library import GROUP_NAMES, KINDS, MODULE_NAMES, SHAPES, TEXTS, SlowLibrary, told
from test_library import DOUBLED, SUMS, USER, filled

LINES = (
    "module m", "group m mul infix left", "group m sum infix left", "operator m mul _ * _", "operator m sum _ + _",
    "tie m mul sum", "module n", "use n m", "group n neg prefix many", "operator n neg - _", "tie n neg mul",
    "operator n - [ _ , _ ]",
)


class SlowDesk:
    """The answers straight from the document, by a slow library."""

    def __init__(self):
        self.library = SlowLibrary()

    def say(self, line):
        result = told(self.answer, line.split(" "))
        return result[1] if result[0] == "returned" else "error " + result[1]

    def answer(self, words):
        slow = self.library
        word, many = words[0], len(words)
        if any(not word for word in words):
            return "unknown"
        if word in ("module", "drop") and many == 2 or word == "use" and many == 3 or word == "tie" and many == 4:
            slow.apply(tuple(words))
        elif word == "group" and many >= 3:
            slow.apply(("group", words[1], " ".join(words[2:])))
        elif word == "operator" and many >= 4:
            slow.apply(("operator", words[1], " ".join(words[3:]), None if words[2] == "-" else words[2]))
        elif word == "undo" and many == 1:
            slow.undo()
        elif word == "redo" and many == 1:
            slow.redo()
        elif word == "read" and many >= 3:
            return full_text(slow.read(words[1], " ".join(words[2:])))
        elif word == "stuck" and many >= 3:
            at = stuck(slow.book(words[1]), " ".join(words[2:]))
            return "none" if at is None else str(at)
        elif word == "needed" and many == 2:
            return " ".join(f"{one}>{other}" for one, other in slow.book(words[1]).ties.needed()) or "none"
        elif word == "names" and many == 1:
            return " ".join(slow.modules()) or "none"
        else:
            return "unknown"
        return "done"


class DeskCase(unittest.TestCase):
    def assert_says(self, desk, *pairs):
        for line, answer in pairs:
            self.assertEqual(desk.say(line), answer, line)

    def filled(self):
        desk = Desk()
        self.assert_says(desk, *[(line, "done") for line in LINES])
        return desk


class TestDesk(DeskCase):
    def test_of_the_document(self):
        desk = Desk()
        lines = ["module m", "group m sum infix left", "operator m sum _ + _", "read m a + b + c", "stuck m a +",
                 "needed m", "read m a b"]
        self.assertEqual([desk.say(line) for line in lines],
                         ["done", "done", "done", "( a + b ) + c", "2", "none", "error NoReading"])

    def test_commands(self):
        desk = self.filled()
        library = filled(*SUMS, *USER, ("operator", "n", "[ _ , _ ]", None))
        self.assertEqual(desk.library(), library)
        self.assertEqual(desk.library().history(), (12, 0))
        self.assert_says(
            desk, ("module m", "error DuplicateName"), ("module M", "error InvalidName"),
            ("use n z", "error UnknownName"), ("use m n", "error Circular"), ("use m m", "error Circular"),
            ("group m x", "error InvalidText"),
            ("group z x", "error UnknownName"), ("group n sum infix left", "error DuplicateName"),
            ("group n sum infix  left", "unknown"), ("operator n sum _ + _", "error DuplicateName"),
            ("operator n sum + _", "error WrongKind"), ("operator n - _ ? _", "error WrongKind"),
            ("operator n zz _ ? _", "error UnknownName"), ("operator n neg _", "error InvalidShape"),
            ("operator m - { _ +", "error Shared"), ("tie m sum mul", "error Ring"),
            ("tie m sum zz", "error UnknownName"), ("drop m", "error InUse"), ("drop z", "error UnknownName"),
        )
        self.assertEqual((desk.library(), desk.library().history()), (library, (12, 0)))
        self.assert_says(desk, ("drop n", "done"), ("drop m", "done"), ("names", "none"))

    def test_more_errors(self):
        desk = Desk(library=Library(limit=1))
        self.assert_says(desk, ("undo", "error NothingLeft"), ("redo", "error NothingLeft"), ("module m", "done"),
                         ("module n", "error Full"), ("redo", "error NothingLeft"))
        for letter in "abcdefghijkl":
            desk.say(f"group m {letter} infix none")
        self.assert_says(desk, ("group m z infix none", "error TooMany"))
        desk = Desk(library=filled(*DOUBLED))
        self.assert_says(desk, ("read d x ! ! x", "error TwoReadings"), ("stuck d x ! ! x", "none"),
                         ("read d x ! y ! x", "error NoReading"), ("read d X", "error InvalidText"))

    def test_undo_and_redo(self):
        desk = self.filled()
        self.assert_says(desk, *[("undo", "done")] * 6, ("names", "m"), *[("undo", "done")] * 6, ("names", "none"),
                         ("undo", "error NothingLeft"), *[("redo", "done")] * 12, ("redo", "error NothingLeft"),
                         ("names", "m n"), ("undo", "done"), ("module z", "done"), ("redo", "error NothingLeft"))
        self.assertEqual(desk.library().history(), (12, 0))

    def test_read(self):
        desk = self.filled()
        self.assert_says(
            desk, ("read m a", "a"), ("read m ( a )", "a"), ("read m a + b", "a + b"), ("read m ( a + b )", "a + b"),
            ("read m a + b * c + d", "( a + ( b * c ) ) + d"), ("read m a * ( b + c )", "a * ( b + c )"),
            ("read n - a * b", "( - a ) * b"), ("read n [ a + b , - ( - a ) ]", "[ ( a + b ) , ( - ( - a ) ) ]"),
            ("read m - a", "error NoReading"), ("read m a +", "error NoReading"), ("read m A", "error InvalidText"),
            ("read z a", "error UnknownName"), ("read z A", "error UnknownName"),
            ("read m " + " ".join(["("] * 61), "error InvalidText"), ("read m", "unknown"), ("read", "unknown"),
            ("read m a\n", "error InvalidText"), ("read m\n a", "error UnknownName"),
        )
        library = desk.library()
        self.assertEqual((len(library.kept()), library.computed), (13, 13))
        desk.say("read m a")
        self.assertEqual((len(library.kept()), library.computed), (13, 13))
        self.assertIn(("m", "a +"), library.kept())

    def test_stuck(self):
        desk = self.filled()
        self.assert_says(
            desk, ("stuck m a", "none"), ("stuck m a +", "2"), ("stuck m +", "0"), ("stuck m a b", "1"),
            ("stuck m a + b * ( c", "6"), ("stuck n [ a , - b", "5"), ("stuck m A", "error InvalidText"),
            ("stuck z a", "error UnknownName"), ("stuck z A", "error UnknownName"), ("stuck m", "unknown"),
            ("stuck", "unknown"), ("stuck m " + " ".join(["a", "+"] * 30), "60"),
        )
        self.assertEqual((desk.library().kept(), desk.library().computed), ([], 0))

    def test_needed_and_names(self):
        desk = Desk()
        self.assert_says(desk, ("names", "none"), ("needed m", "error UnknownName"), ("module m", "done"),
                         ("needed m", "none"))
        desk = self.filled()
        self.assert_says(desk, ("needed m", "mul>sum"), ("needed n", "mul>sum neg>mul"), ("names", "m n"),
                         ("module a", "done"), ("names", "a m n"), ("tie n neg sum", "done"),
                         ("needed n", "mul>sum neg>mul"), ("needed", "unknown"), ("needed m n", "unknown"),
                         ("names m", "unknown"), ("needed M", "error UnknownName"))
        self.assertEqual((desk.library().kept(), desk.library().computed), ([], 0))

    def test_lines_of_another_form(self):
        desk = self.filled()
        lines = []
        for line in (*LINES, "undo", "redo", "names", "needed m", "read m a + b", "stuck m a", "drop n"):
            word, *rest = line.split(" ")
            lines += [line + " ", " " + line, "  ".join([word, *rest]) if rest else line + "  ", line.upper()]
            lines.append(" ".join([word + "s", *rest]))
        lines += ["", " ", "  ", "\n", "undo m", "redo m", "names m", "module", "module a b", "use n", "use n m m",
                  "use", "group m", "group", "operator m sum", "operator m", "operator", "tie m mul",
                  "tie m mul sum mul", "tie", "drop", "drop m n", "need m", "kept", "done", "limit 9", "computed",
                  "history", "Undo", "read m", "undo\n", "\nundo", "page"]
        before = desk.library().twin()
        for line in lines:
            self.assertEqual(desk.say(line), "unknown", repr(line))
        self.assertEqual((desk.library(), desk.library().history()), (before, before.history()))

    def test_any_word_is_a_word(self):
        desk = self.filled()
        self.assert_says(desk, ("module (", "error InvalidName"), ("module a\nb", "error InvalidName"),
                         ("use ( )", "error UnknownName"), ("tie m _ -", "error UnknownName"),
                         ("drop $", "error UnknownName"), ("operator m _ { _ }", "error UnknownName"),
                         ("operator m - -", "error InvalidShape"), ("read m ~", "error InvalidText"))

    def test_the_log(self):
        desk = Desk()
        self.assertEqual((desk.log(), len(desk)), ([], 0))
        lines = ["module m", "module m", "", "names", "read m x", "read m x x", "undo", "what is this"]
        answers = [desk.say(line) if at % 2 else desk(line) for at, line in enumerate(lines)]
        self.assertEqual(answers, ["done", "error DuplicateName", "unknown", "m", "x", "error NoReading", "done",
                                   "unknown"])
        self.assertEqual((desk.log(), len(desk)), (list(zip(lines, answers)), 8))
        self.assertTrue(all(type(pair) is tuple for pair in desk.log()))
        desk.log().clear()
        self.assertEqual(len(desk.log()), 8)
        self.assertEqual((desk.say(line="names"), desk(line="names"), len(desk)), ("none", "none", 10))

    def test_its_library(self):
        for library in (Library(limit=3), filled(*SUMS)):
            desk = Desk(library=library)
            self.assertIs(desk.library(), library)
            self.assertEqual(desk.say("module z"), "done")
            self.assertIn("z", library)
        self.assertEqual((Desk().library(), Desk().library().limit), (Library(), 8))
        self.assertIsNot(Desk().library(), Desk().library())
        self.assertEqual((Desk(library=None).library(), Desk(library=None).library().limit), (Library(), 8))
        with self.assertRaises(TypeError):
            Desk(Library())

    def test_two_desks_of_one_library(self):
        library = Library()
        one, other = Desk(library=library), Desk(library=library)
        self.assert_says(one, ("module a", "done"), ("names", "a"))
        self.assert_says(other, ("module b", "done"), ("names", "a b"), ("read a x", "x"), ("undo", "done"))
        self.assert_says(one, ("names", "a"), ("undo", "done"))
        library.apply(("module", "q"))
        self.assert_says(other, ("names", "q"))
        self.assertEqual((len(one), len(other), library.computed), (4, 5, 1))
        self.assertEqual(one.log()[-1], ("undo", "done"))

    def test_methods_are_defined_in_the_class(self):
        self.assertEqual(Desk.__module__, module.__name__)
        for name in ("__init__", "__call__", "say", "library", "log", "__len__"):
            self.assertIn(name, vars(Desk))

    def test_random_lines(self):
        chance = random.Random(1)
        seen = {}
        for _ in range(40):
            desk, slow = Desk(), SlowDesk()
            for _ in range(100):
                line = self.random_line(chance, desk.library().modules())
                answer = desk.say(line)
                self.assertEqual(answer, slow.say(line), line)
                seen[answer] = seen.get(answer, 0) + 1
            self.assertEqual(desk.library().kept(), slow.library.kept())
            self.assertEqual(desk.library().computed, slow.library.computed)
        for answer in ("done", "unknown", "none", "error UnknownName", "error DuplicateName", "error NoReading", "x"):
            self.assertGreater(seen.get(answer, 0), 10, seen)

    def random_line(self, chance, names):
        name = chance.choice(names if names and chance.random() < 0.8 else MODULE_NAMES)
        group, shape, text = chance.choice(GROUP_NAMES), chance.choice(SHAPES), chance.choice(TEXTS)
        other = chance.choice(names if names else MODULE_NAMES)
        line = chance.choice([
            f"module {chance.choice(MODULE_NAMES)}", f"use {name} {other}",
            f"group {name} {group} {chance.choice(KINDS)}", f"operator {name} {group} {shape}",
            f"operator {name} - {shape}",
            f"tie {name} {group} {chance.choice(GROUP_NAMES)}", f"drop {name}", "undo", "redo", f"read {name} {text}",
            f"read {name} x", f"stuck {name} {text}", f"needed {name}", "names", f"read {name} x + y",
        ])
        if chance.random() < 0.1:
            words = line.split(" ")
            at = chance.randrange(len(words))
            words[at:at + chance.choice([0, 1])] = [chance.choice(["", "a", "x", "+", "_"])]
            line = " ".join(words)
        return line

    def test_readings_are_those_of_the_library(self):
        desk = self.filled()
        for text in ("a", "a + b * c", "a * b * c", "( a ) + ( b + c )"):
            self.assertEqual(desk.say("read m " + text), full_text(read(desk.library().book("m"), text)))


if __name__ == "__main__":
    unittest.main()
