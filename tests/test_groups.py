import itertools
import unittest

from pairbinds import shapes
from pairbinds.errors import BindError, InvalidKind, InvalidName, InvalidSide, InvalidText
from pairbinds.shapes import Group, Shape, is_name
from values import OTHERS

SIDES = {
    "infix": ("left", "right", "none"),
    "prefix": ("many", "once"),
    "postfix": ("many", "once"),
}
DEFAULTS = {"infix": "none", "prefix": "once", "postfix": "once"}
ALL_SIDES = ("left", "right", "none", "many", "once")
# These are names, but neither kinds nor sides.
WORDS = ("a", "closed", "plain", "in", "infixes", "pre", "both", "leftmost", "lef", "l", "n")


class TestGroup(unittest.TestCase):
    def test_each_kind_with_each_side(self):
        for kind, sides in SIDES.items():
            for side in sides:
                group = Group("sum", kind, side=side)
                self.assertEqual((group.name, group.kind, group.side), ("sum", kind, side))
                self.assertEqual(group.text, "sum " + kind + " " + side)
                self.assertEqual(repr(group), "Group(sum " + kind + " " + side + ")")

    def test_the_side_left_out(self):
        for kind, side in DEFAULTS.items():
            self.assertEqual(Group("a", kind).side, side)
            self.assertEqual(Group("a", kind).text, "a " + kind + " " + side)
            self.assertEqual(Group("a", kind, side=None).side, side)

    def test_the_kind_left_out(self):
        self.assertEqual(Group("a").text, "a infix none")
        self.assertEqual(Group("a", side="left").text, "a infix left")

    def test_by_name(self):
        self.assertEqual(Group(side="many", kind="prefix", name="neg").text, "neg prefix many")

    def test_the_side_is_keyword_only(self):
        with self.assertRaises(TypeError):
            Group("a", "infix", "left")

    def test_listed_attributes_are_set_on_the_object(self):
        self.assertLessEqual({"name", "kind", "side", "text"}, set(vars(Group("a"))))

    def test_names_of_one_eight_and_nine_letters(self):
        self.assertEqual(Group("a").name, "a")
        self.assertEqual(Group("abcdefgh").name, "abcdefgh")
        self.assert_raises(InvalidName, "abcdefghi", "abcdefghi")

    def test_names_of_kinds_and_sides_are_names(self):
        for name in ALL_SIDES + ("infix", "prefix", "postfix", "closed"):
            self.assertEqual(Group(name).text, name + " infix none")

    def assert_raises(self, error, given, *arguments, **named):
        with self.assertRaises(error) as caught:
            Group(*arguments, **named)
        self.assertIs(type(caught.exception), error)
        self.assertIsInstance(caught.exception, BindError)
        self.assertEqual(caught.exception.given, given)
        self.assertIs(type(caught.exception.given), type(given))
        self.assertEqual(caught.exception.code, error.__name__)

    def test_wrong_names(self):
        for value in OTHERS + ("+", "<=", "_", "sum infix left", "a b"):
            self.assert_raises(InvalidName, value, value)
            self.assert_raises(InvalidName, value, value, "prefix", side="many")

    def test_wrong_kinds(self):
        for value in OTHERS + ALL_SIDES + WORDS + ("Infix", "infix ", "+"):
            self.assert_raises(InvalidKind, value, "a", value)
            self.assert_raises(InvalidKind, value, "a", value, side="left")
            self.assert_raises(InvalidKind, value, "a", value, side="many")

    def test_wrong_sides(self):
        for kind, sides in SIDES.items():
            for value in OTHERS + ALL_SIDES + WORDS + ("Left", "left ", "infix", kind):
                if value is not None and value not in sides:
                    self.assert_raises(InvalidSide, value, "a", kind, side=value)
        for value in ("many", "once", ["left"], True):
            self.assert_raises(InvalidSide, value, "a", side=value)

    def test_several_errors_at_once(self):
        for value in OTHERS:
            self.assert_raises(InvalidName, value, value, "closed", side="both")
            self.assert_raises(InvalidName, value, value, value, side=value)
            self.assert_raises(InvalidName, value, value, "prefix", side="left")
            self.assert_raises(InvalidKind, value, "a", value, side="both")
            self.assert_raises(InvalidKind, value, "a", value, side=value)
        self.assert_raises(InvalidKind, "closed", "a", "closed", side="none")

    def test_arguments_are_not_changed(self):
        given = ["a", ["infix"]]
        self.assert_raises(InvalidName, ["a", ["infix"]], given)
        self.assert_raises(InvalidKind, ["a", ["infix"]], "a", given)
        self.assert_raises(InvalidSide, ["a", ["infix"]], "a", side=given)
        self.assertEqual(given, ["a", ["infix"]])

    def test_equal_groups(self):
        texts = [f"{name} {kind} {side}" for name in ("a", "b") for kind, sides in SIDES.items() for side in sides]
        for one, other in itertools.product(texts, texts):
            self.assertIs(Group.parsed(one) == Group.parsed(other), one == other)
            self.assertIs(Group.parsed(one) != Group.parsed(other), one != other)
        self.assertIs(Group("a") == Group("a", "infix", side="none"), True)
        self.assertIs(Group("a", "prefix") == Group("a", "prefix", side="once"), True)

    def test_a_group_equals_nothing_else(self):
        group = Group("a")
        for value in OTHERS + ("a infix none", "a", ("a", "infix", "none"), "Group(a infix none)", Shape("_ a _")):
            self.assertIs(group == value, False)
            self.assertIs(value == group, False)
            self.assertIs(group != value, True)

    def test_methods_are_defined_in_the_class(self):
        self.assertEqual(Group.__module__, shapes.__name__)
        for name in ("__init__", "parsed", "__eq__", "__repr__"):
            self.assertIn(name, vars(Group))
        self.assertIsInstance(vars(Group)["parsed"], staticmethod)


class TestParsed(unittest.TestCase):
    def assert_wrong(self, value):
        with self.assertRaises(InvalidText) as caught:
            Group.parsed(value)
        self.assertIs(type(caught.exception), InvalidText)
        self.assertEqual(caught.exception.at, 0)
        self.assertIs(type(caught.exception.at), int)

    def test_right_texts(self):
        for name in ("a", "sum", "abcdefgh", "infix", "none"):
            for kind, sides in SIDES.items():
                for side in sides:
                    text = f"{name} {kind} {side}"
                    group = Group.parsed(text)
                    self.assertIs(type(group), Group)
                    self.assertEqual((group.name, group.kind, group.side, group.text), (name, kind, side, text))
                    self.assertEqual(group, Group(name, kind, side=side))

    def test_by_name(self):
        self.assertEqual(Group.parsed(text="sum infix left"), Group("sum", side="left"))

    def test_each_side_of_another_kind(self):
        for kind, sides in SIDES.items():
            for side in ALL_SIDES + WORDS + ("None", "", "A", "+", "_"):
                if side not in sides:
                    self.assert_wrong("a " + kind + " " + side)

    def test_wrong_texts(self):
        for text in (
            "sum", "sum infix", "sum prefix", "sum left", "infix left", "sum infix left left", "sum left infix",
            "sum infix  left", " sum infix left", "sum infix left ", "sum  infix left", "sum infix left\n",
            "sum\ninfix left", "sum infix\nleft", "\nsum infix left", "sum,infix,left", "abcdefghi infix left",
            "Sum infix left", "+ infix left", "_ infix left", " infix left", "1 infix left", "sum closed none",
            "sum Infix left", "sum + left", "sum  left", "sum infix ", "sum infix None", "sum infix Left",
            "Group(sum infix left)", "sum infix left many", "a a a",
        ):
            self.assert_wrong(text)

    def test_other_values(self):
        for value in OTHERS + (["sum infix left"], ["sum", "infix", "left"], ("sum", "infix", "left")):
            self.assert_wrong(value)
        self.assert_wrong(Group("sum"))


class TestIsName(unittest.TestCase):
    def test_names(self):
        for value in ("a", "z", "sum", "abcdefgh", "infix", "none"):
            self.assertIs(is_name(value), True)
        self.assertIs(is_name(value="a"), True)

    def test_other_values(self):
        for value in OTHERS + ("+", "<=>", "_", "abcdefghi", "a b", Group("a"), Shape("_ a _")):
            self.assertIs(is_name(value), False)

    def test_each_single_character(self):
        for code in range(128):
            self.assertIs(is_name(chr(code)), 97 <= code <= 122)
            self.assertIs(is_name("a" + chr(code)), 97 <= code <= 122)

    def test_defined_here(self):
        self.assertEqual(is_name.__module__, shapes.__name__)


if __name__ == "__main__":
    unittest.main()
