import random
import unittest

from pairbinds import pages
from pairbinds.errors import BindError, InvalidPage
from pairbinds.library import Library
from pairbinds.pages import read_page, write_page
from slow_library import SlowLibrary, random_command, told
from test_library import FOUR, LETTERS, SUMS, USER, filled
from values import OTHERS

PAGE = """module m
group mul infix left
group sum infix left
operator mul _ * _
operator sum _ + _
tie mul sum
module n
use m
group neg prefix many
operator neg - _
operator - [ _ , _ ]
tie mul sum
tie neg mul
"""


def random_libraries(seed, steps=60):
    """A library and a slow one, with the same random content."""
    chance = random.Random(seed)
    library, slow = Library(limit=12), SlowLibrary(limit=12)
    for _ in range(steps):
        command = random_command(chance, library)
        told(library.apply, command)
        told(slow.apply, command)
    return library, slow


def slow_row(text):
    """The index of the first wrong line, or None and the slow library, straight from the document."""
    slow = SlowLibrary(limit=12)
    lines = text.split("\n")
    name = None
    for at, line in enumerate(lines[:-1]):
        word, *rest = line.split(" ")
        if word == "module" and len(rest) == 1:
            name = rest[0]
            command = ("module", name)
        elif name is None:
            return at, None
        elif word == "use" and len(rest) == 1:
            command = ("use", name, rest[0])
        elif word == "group" and rest:
            command = ("group", name, " ".join(rest))
        elif word == "operator" and len(rest) > 1:
            command = ("operator", name, " ".join(rest[1:]), None if rest[0] == "-" else rest[0])
        elif word == "tie" and len(rest) == 2:
            command = ("tie", name, *rest)
        else:
            return at, None
        if told(slow.apply, command)[0] == "raised":
            return at, None
    if lines[-1] or slow.page() != text:
        return len(lines) - 1, None
    return None, slow


class PagesCase(unittest.TestCase):
    def assert_wrong(self, text, row):
        with self.assertRaises(InvalidPage) as caught:
            read_page(text)
        self.assertIs(type(caught.exception), InvalidPage)
        self.assertIsInstance(caught.exception, BindError)
        self.assertEqual((caught.exception.row, caught.exception.code), (row, "InvalidPage"))
        self.assertIs(type(caught.exception.row), int)

    def assert_right(self, text):
        library = read_page(text)
        self.assertIs(type(library), Library)
        self.assertEqual(write_page(library), text)
        self.assertEqual((library.history(), library.kept(), library.computed, library.busy), ((0, 0), [], 0, False))
        self.assertEqual(library.limit, max(8, len(library)))
        return library


class TestWriting(PagesCase):
    def test_told_one_by_one(self):
        library = filled(*SUMS, *USER, ("tie", "n", "mul", "sum"), ("operator", "n", "[ _ , _ ]", None))
        self.assertEqual(write_page(library), PAGE)
        self.assertEqual(write_page(library=library), PAGE)
        self.assertEqual(write_page(Library()), "")
        self.assertEqual(write_page(filled(("module", "none"))), "module none\n")

    def test_the_order_of_modules(self):
        for uses, order in (
            ([], "abcd"), (["ab"], "bacd"), (["ad"], "bcda"), (["ab", "bc", "cd"], "dcba"), (["da", "cb"], "abcd"),
            (["ac", "bd"], "cadb"), (["ad", "bc"], "cbda"), (["ab", "ac", "ad"], "bcda"), (["ab", "cb"], "bacd"),
            (["bd", "cd", "ab"], "dbac"), (["ac", "ba"], "cabd"), (["ac", "ba", "cd"], "dcab"),
        ):
            library = filled(*FOUR, *[("use", *pair) for pair in uses])
            lines = write_page(library).split("\n")
            self.assertEqual("".join(line[-1] for line in lines if line.startswith("module")), order, uses)
            self.assert_right(write_page(library))

    def test_ascending(self):
        library = filled(*FOUR, ("use", "d", "c"), ("use", "d", "a"), ("use", "c", "a"))
        library.apply(*[("group", "d", name + " infix none") for name in ("z", "ab", "a", "b")],
                      *[("operator", "d", text, "z") for text in ("_ z _", "_ + _", "_ ! _ ? _", "_ a _")],
                      ("operator", "d", "[ _ ]", None), ("operator", "d", "q _ r", None),
                      ("tie", "d", "z", "a"), ("tie", "d", "b", "a"), ("tie", "d", "ab", "b"), ("tie", "d", "ab", "a"))
        self.assertEqual(write_page(library), """module a
module b
module c
use a
module d
use a
use c
group a infix none
group ab infix none
group b infix none
group z infix none
operator - [ _ ]
operator z _ ! _ ? _
operator z _ + _
operator z _ a _
operator z _ z _
operator - q _ r
tie ab a
tie ab b
tie b a
tie z a
""")
        self.assertEqual(self.assert_right(write_page(library)), library)

    def test_operators_in_groups_of_used_modules(self):
        library = filled(*SUMS, ("module", "a"), ("use", "a", "m"), ("module", "b"), ("use", "b", "a"),
                         ("operator", "b", "_ - _", "sum"), ("tie", "b", "mul", "sum"))
        self.assertEqual(write_page(library).split("\n")[6:], ["module a", "use m", "module b", "use a",
                                                               "operator sum _ - _", "tie mul sum", ""])
        self.assert_right(write_page(library))

    def test_history_and_readings_do_not_count(self):
        library = filled(*SUMS)
        page = write_page(library)
        library.read("m", "x")
        library.apply(*USER)
        library.undo()
        library.limit = 12
        self.assertEqual(write_page(library), page)
        self.assertEqual((library.history(), library.kept()), ((1, 1), [("m", "x")]))

    def test_random_libraries(self):
        for seed in range(40):
            library, slow = random_libraries(seed)
            page = write_page(library)
            self.assertEqual(page, slow.page())
            again = self.assert_right(page)
            self.assertEqual(again, library)
            for name in library.modules():
                self.assertEqual((again.uses(name), again.said(name), again.book(name)),
                                 (library.uses(name), library.said(name), library.book(name)))


class TestReading(PagesCase):
    def test_a_page(self):
        library = self.assert_right(PAGE)
        self.assertEqual(library, filled(*SUMS, *USER, ("tie", "n", "mul", "sum"),
                                         ("operator", "n", "[ _ , _ ]", None)))
        self.assertEqual(read_page(text=PAGE), library)
        library.apply(("drop", "n"))
        self.assertEqual(library.history(), (1, 0))
        library.undo()
        self.assertEqual(write_page(library), PAGE)

    def test_the_empty_page(self):
        self.assertEqual(self.assert_right(""), Library())
        self.assert_wrong("\n", 0)
        self.assert_wrong(" ", 0)

    def test_limits(self):
        for many in range(13):
            page = "".join(f"module {letter}\n" for letter in LETTERS[:many])
            library = self.assert_right(page)
            self.assertEqual((len(library), library.limit), (many, max(8, many)))
        self.assert_wrong("".join(f"module {letter}\n" for letter in LETTERS[:13]), 12)

    def test_values_that_are_no_strings(self):
        for value in OTHERS:
            if isinstance(value, str):
                if value:
                    self.assert_wrong(value, 0)
            else:
                self.assert_wrong(value, 0)
        for value in (PAGE.split("\n"), tuple(PAGE.split("\n")), Library(), [PAGE]):
            self.assert_wrong(value, 0)

    def test_lines_of_another_form(self):
        lines = PAGE.split("\n")[:-1]
        for at in range(len(lines) + 1):
            for line in ("", " ", "modul a", "module", "module a b", "module  a", "module a ", " module a", "module A",
                         "use", "use m m", "use  m", "group", "group q", "group q infix", "group q infix left left",
                         "group q  infix left", "group Q infix left", "operator", "operator -", "operator - _",
                         "operator sum", "operator sum - _", "operator - - _", "operator zz _ ? _", "operator  _ ? _",
                         "operator sum _  ? _", "tie", "tie mul", "tie mul sum mul", "tie mul  sum", "tie mul zz",
                         "drop", "drop m", "undo", "redo", "read m x", "names", "done", "module m n o", "Module a"):
                self.assert_wrong("\n".join(lines[:at] + [line] + lines[at:]) + "\n", at)

    def test_lines_ahead_of_the_first_module(self):
        for line in ("use m", "group q infix left", "operator - [ _ ]", "tie mul sum", "drop m", ""):
            self.assert_wrong(line + "\n", 0)
            self.assert_wrong(line + "\n" + PAGE, 0)

    def test_the_last_line_feed(self):
        self.assert_wrong(PAGE[:-1], PAGE.count("\n") - 1)
        self.assert_wrong("module m", 0)
        self.assert_wrong(PAGE + "module z", PAGE.count("\n"))
        self.assert_wrong(PAGE + " ", PAGE.count("\n"))
        self.assert_wrong(PAGE + "\n", PAGE.count("\n"))
        # The first wrong line counts, whatever is wrong with it.
        self.assert_wrong("module m\nbad\nmodule z", 1)
        self.assert_wrong("bad", 0)

    def test_commands_that_cannot_be_done(self):
        for page, row in (
            ("module m\nmodule m\n", 1), ("module m\nuse m\n", 1), ("module m\nuse n\nmodule n\n", 1),
            ("module m\ngroup g infix none\ngroup g infix none\n", 2),
            ("module m\ngroup g infix none\noperator g - _\n", 2), ("module m\noperator g _ - _\n", 1),
            ("module m\ngroup g infix none\ntie g g\n", 2),
            ("module m\ngroup g infix none\ngroup h infix none\ntie g h\ntie h g\n", 4),
            ("module m\noperator - [ _ ]\noperator - { _ ]\n", 2),
            ("module m\noperator - [ _ ]\nmodule n\nuse m\noperator - [ _ ]\n", 4),
            ("module m\noperator - [ _ ]\nmodule n\noperator - { _ ]\nmodule o\nuse m\nuse n\n", 6),
            ("module m\n" + "".join(f"group {letter} infix none\n" for letter in LETTERS[:13]), 13),
            ("module m\n" + "".join(f"operator - {letter} _ {letter}x\n" for letter in LETTERS)
             + "".join(f"operator - {letter}y _ {letter}z\n" for letter in LETTERS[:5]), 31),
        ):
            self.assert_wrong(page, row)
            self.assert_wrong(page + "bad", row)
            self.assert_wrong(page + "bad\n", row)
            self.assert_wrong(page.replace("module", "bad", 1), 0)
            self.assertEqual(slow_row(page)[0], row)

    def test_pages_of_another_form(self):
        """Each line can be done, but the page of the library is another one."""
        for page in (
            "module b\nmodule a\n", "module a\nmodule b\nmodule c\nuse b\nuse b\n",
            "module a\nmodule b\nmodule c\nuse b\nuse a\n", "module m\ngroup b infix none\ngroup a infix none\n",
            "module m\noperator - [ _ ]\ngroup a infix none\n", "module m\noperator - { _ }\noperator - [ _ ]\n",
            "module m\ngroup a infix none\ngroup b infix none\ntie a b\ntie a b\n",
            "module m\ngroup a infix none\ngroup b infix none\ngroup c infix none\ntie b c\ntie a b\n",
            "module m\ngroup a infix none\ngroup b infix none\ntie a b\noperator a _ + _\n",
            "module b\nmodule a\nuse b\nmodule d\nmodule c\n",
        ):
            self.assert_wrong(page, page.count("\n"))
            self.assertEqual(slow_row(page)[0], page.count("\n"))

    def test_lines_left_out_doubled_and_exchanged(self):
        chance = random.Random(1)
        seen = {}
        for seed in range(25):
            library, _ = random_libraries(seed)
            page = write_page(library)
            lines = page.split("\n")[:-1]
            if len(lines) < 4:
                continue
            for _ in range(40):
                bent = list(lines)
                at, other = chance.randrange(len(bent)), chance.randrange(len(bent))
                kind = chance.randrange(6)
                if kind == 0:
                    del bent[at]
                elif kind == 1:
                    bent.insert(other, bent[at])
                elif kind == 2:
                    bent[at], bent[other] = bent[other], bent[at]
                elif kind == 3:
                    words = bent[at].split(" ")
                    words[chance.randrange(len(words))] = chance.choice(["a", "b", "p", "q", "+", "_", "-", "", "tie"])
                    bent[at] = " ".join(words)
                elif kind == 4:
                    place = chance.randrange(len(bent[at]) + 1)
                    bent[at] = bent[at][:place] + chance.choice([" ", "\n", "a", "_", "-"]) + bent[at][place:]
                text = "\n".join(bent) + chance.choice(["\n"] * 8 + ["", " ", "\n\n"])
                row, slow = slow_row(text)
                if row is None:
                    again = self.assert_right(text)
                    self.assertEqual((again.modules(), again.history()), (slow.modules(), (0, 0)))
                    seen["right"] = seen.get("right", 0) + 1
                else:
                    self.assert_wrong(text, row)
                    place = "end" if row == text.count("\n") else "inside"
                    seen[place] = seen.get(place, 0) + 1
        self.assertGreater(min(seen[key] for key in ("right", "end", "inside")), 50, seen)

    def test_defined_here(self):
        for function in (write_page, read_page):
            self.assertEqual(function.__module__, pages.__name__)


class TestGreatPages(PagesCase):
    def test_twelve_great_modules(self):
        """Twelve modules, each with as many groups and operators as its book may have."""
        commands = []
        signs = "!#&*+,-./:;<=>?@[]^{|}"
        words = iter(one + other + last for one in signs for other in signs for last in signs)
        for letter in LETTERS[:12]:
            commands.append(("module", letter))
            names = [letter + other for other in LETTERS[:12]]
            commands += [("group", letter, name + " infix left") for name in names]
            commands += [("operator", letter, f"_ {next(words)} _", names[at % 12]) for at in range(30)]
            commands += [("tie", letter, one, other) for one, other in zip(names, names[1:])]
        library = filled(*commands, limit=12)
        page = write_page(library)
        self.assertEqual(page.count("\n"), 12 * (1 + 12 + 30 + 11))
        self.assertEqual(self.assert_right(page), library)


if __name__ == "__main__":
    unittest.main()
