import itertools
import unittest

from pairbinds import shapes
from pairbinds.errors import BindError, InvalidNumber, InvalidShape, InvalidWord
from pairbinds.shapes import Group, Shape
from pairbinds.words import SIGNS
from values import OTHERS

# text, kind, words, holes, outer
SHAPES = (
    ("_ + _", "infix", ("+",), 2, (0, 1)),
    ("_ ? _ : _", "infix", ("?", ":"), 3, (0, 2)),
    ("_ a _ b _ c _", "infix", ("a", "b", "c"), 4, (0, 3)),
    ("_ a _ b _ c _ d _", "infix", ("a", "b", "c", "d"), 5, (0, 4)),
    ("- _", "prefix", ("-",), 1, (0,)),
    ("if _ then _", "prefix", ("if", "then"), 2, (1,)),
    ("if _ then _ else _", "prefix", ("if", "then", "else"), 3, (2,)),
    ("a _ b _ c _ d _", "prefix", ("a", "b", "c", "d"), 4, (3,)),
    ("_ !", "postfix", ("!",), 1, (0,)),
    ("_ [ _ ]", "postfix", ("[", "]"), 2, (0,)),
    ("_ [ _ , _ ]", "postfix", ("[", ",", "]"), 3, (0,)),
    ("_ d _ c _ b _ a", "postfix", ("d", "c", "b", "a"), 4, (0,)),
    ("[ _ ]", "closed", ("[", "]"), 1, ()),
    ("[ _ , _ ]", "closed", ("[", ",", "]"), 2, ()),
    ("{ _ | _ ; _ }", "closed", ("{", "|", ";", "}"), 3, ()),
    ("_ abcdefgh _", "infix", ("abcdefgh",), 2, (0, 1)),
    ("<=> _", "prefix", ("<=>",), 1, (0,)),
    ("_ a _ + _", "infix", ("a", "+"), 3, (0, 2)),
)
WRONG_SHAPES = (
    "", " ", "_", "_ _", "_ _ _", "+", "a", "a b", "a _ b c", "a b _", "_ a b", "_ a _ _", "_ _ a", "a _ _",
    "a _ b _ c _ d _ e", "_ a _ b _ c _ d _ e _", "_ a _ b _ c _ d _ e", "a _ b _ c _ d _ e _",
    "_ a _ a", "_ a _ a _", "a _ a", "a _ a _", "a _ b _ a", "_ + _ - _ +", "_ a _ b _ c _ b _",
    "_  + _", "_ +  _", " _ + _", "_ + _ ", "_+_", "_+ _", "_ + _\n", "\n_ + _", "_\n+ _", "_ \n _",
    "_ A _", "_ ++++ _", "_ abcdefghi _", "_ a+ _", "_ ( _", "( _ )", "_ ( _ )", "__ + _", "_ + __", "_ 1 _",
    "_ % _", "_ ~ _", "_ + x", "x + _", "x + y",
)


class TestShape(unittest.TestCase):
    def test_attributes_and_properties(self):
        for text, kind, words, holes, outer in SHAPES:
            shape = Shape(text)
            self.assertEqual(shape.text, text)
            self.assertEqual(shape.kind, kind, text)
            self.assertEqual(shape.words, words, text)
            self.assertIs(type(shape.words), tuple)
            self.assertEqual(shape.holes, holes, text)
            self.assertIs(type(shape.holes), int)
            self.assertIs(shape.is_plain, len(words) == 1, text)
            self.assertEqual(shape.outer, outer, text)
            self.assertIs(type(shape.outer), tuple)
            self.assertEqual(len(shape), len(words), text)
            self.assertEqual(repr(shape), "Shape(" + text + ")")

    def test_the_most_words(self):
        self.assertEqual(Shape.MOST, 4)
        self.assertEqual(Shape("_ + _").MOST, 4)
        self.assertIn("MOST", vars(Shape))

    def test_listed_attributes_are_set_on_the_object(self):
        self.assertLessEqual({"text", "kind"}, set(vars(Shape("_ + _"))))

    def test_by_name(self):
        self.assertEqual(Shape(text="_ + _").text, "_ + _")
        self.assertEqual(Shape.infix(word="+").text, "_ + _")
        self.assertEqual(Shape.prefix(word="-").text, "- _")
        self.assertEqual(Shape.postfix(word="!").text, "_ !")

    def test_all_short_rows_of_words_and_holes(self):
        for many in range(1, 8):
            for parts in itertools.product("_ab", repeat=many):
                self.check_row(parts)

    def test_rows_in_turn_of_each_length(self):
        for many in range(1, 14):
            for hole in range(2):
                self.check_row(["_" if at % 2 == hole else "abcdefg"[at // 2] for at in range(many)])

    def check_row(self, parts):
        text = " ".join(parts)
        words = [part for part in parts if part != "_"]
        in_turn = all((one == "_") != (other == "_") for one, other in zip(parts, parts[1:]))
        right = in_turn and 1 <= len(words) <= 4 and "_" in parts and len(set(words)) == len(words)
        if right:
            self.assertEqual(Shape(text).words, tuple(words))
        else:
            with self.assertRaises(InvalidShape):
                Shape(text)

    def test_each_sign_may_be_a_word(self):
        for sign in SIGNS:
            self.assertEqual(Shape("_ " + sign + " _").words, (sign,))

    def assert_no_shape(self, value):
        with self.assertRaises(InvalidShape) as caught:
            Shape(value)
        self.assertIs(type(caught.exception), InvalidShape)
        self.assertIsInstance(caught.exception, BindError)
        self.assertEqual(caught.exception.given, value)
        self.assertIs(type(caught.exception.given), type(value))
        self.assertEqual(caught.exception.code, "InvalidShape")

    def test_wrong_texts(self):
        for text in WRONG_SHAPES:
            self.assert_no_shape(text)

    def test_other_values(self):
        for value in OTHERS:
            self.assert_no_shape(value)
        self.assert_no_shape("_ + _ " * 300)

    def test_a_shape_is_no_text_of_a_shape(self):
        with self.assertRaises(InvalidShape):
            Shape(Shape("_ + _"))


class TestPlainShapes(unittest.TestCase):
    def test_the_shapes_with_a_word(self):
        for word in ("+", "<=", "<=>", "a", "abcdefgh"):
            self.assertEqual(Shape.infix(word).text, "_ " + word + " _")
            self.assertEqual(Shape.infix(word).kind, "infix")
            self.assertEqual(Shape.prefix(word).text, word + " _")
            self.assertEqual(Shape.prefix(word).kind, "prefix")
            self.assertEqual(Shape.postfix(word).text, "_ " + word)
            self.assertEqual(Shape.postfix(word).kind, "postfix")
            for shape in (Shape.infix(word), Shape.prefix(word), Shape.postfix(word)):
                self.assertIs(type(shape), Shape)
                self.assertIs(shape.is_plain, True)
                self.assertEqual(shape.words, (word,))

    def test_other_values(self):
        wrong = OTHERS + ("_", "_ + _", "+ _ -", "? _ :", "++++", "abcdefghi", "a _ b")
        for make in (Shape.infix, Shape.prefix, Shape.postfix):
            for value in wrong:
                with self.assertRaises(InvalidWord) as caught:
                    make(value)
                self.assertIs(type(caught.exception), InvalidWord)
                self.assertEqual(caught.exception.given, value)
                self.assertIs(type(caught.exception.given), type(value))
                self.assertEqual(caught.exception.code, "InvalidWord")


class TestFilled(unittest.TestCase):
    def test_each_kind(self):
        for text, parts, expected in (
            ("_ + _", ("a", "b"), "a + b"),
            ("- _", ("a",), "- a"),
            ("_ !", ("a",), "a !"),
            ("[ _ , _ ]", ("a", "b"), "[ a , b ]"),
            ("_ ? _ : _", ("a", "b + c", "d"), "a ? b + c : d"),
            ("_ a _ b _ c _ d _", ("1", "2", "3", "4", "5"), "1 a 2 b 3 c 4 d 5"),
        ):
            filled = Shape(text).filled(*parts)
            self.assertEqual(filled, expected)
            self.assertIs(type(filled), str)

    def test_strings_stand_as_they_are(self):
        self.assertEqual(Shape("_ + _").filled("_", "_ - _"), "_ + _ - _")
        self.assertEqual(Shape("_ + _").filled("_ + _", "b"), "_ + _ + b")
        self.assertEqual(Shape("_ + _").filled("", ""), " + ")
        self.assertEqual(Shape("- _").filled("A\n1"), "- A\n1")
        self.assertEqual(Shape("[ _ ]").filled("( a )"), "[ ( a ) ]")

    def test_filled_with_holes_is_the_text(self):
        for text, _, _, holes, _ in SHAPES:
            self.assertEqual(Shape(text).filled(*["_"] * holes), text)

    def test_another_number_of_parts(self):
        for text, _, _, holes, _ in SHAPES:
            for many in range(8):
                if many != holes:
                    with self.assertRaises(InvalidNumber) as caught:
                        Shape(text).filled(*["a"] * many)
                    self.assertIs(type(caught.exception), InvalidNumber)
                    self.assertEqual(caught.exception.given, many)
                    self.assertIs(type(caught.exception.given), int)
                    self.assertEqual(caught.exception.code, "InvalidNumber")

    def test_the_shape_stays(self):
        shape = Shape("_ + _")
        self.assertEqual([shape.filled("a", "b"), shape.filled("c", "d")], ["a + b", "c + d"])
        self.assertEqual((shape.text, shape.words, shape.holes), ("_ + _", ("+",), 2))


class TestShapeOperators(unittest.TestCase):
    def test_words_are_in_a_shape(self):
        for text, _, words, _, _ in SHAPES:
            for word in words:
                self.assertIs(word in Shape(text), True)

    def test_other_values_are_not(self):
        shape = Shape("if _ then _ else _")
        for value in OTHERS + ("_", "i", "f", "th", "hen", "if _", "if _ then _ else _", "if then", "+", ("if",),
                               ["if"], ["if", "then", "else"], ("if", "then", "else")):
            self.assertIs(value in shape, False, value)
        self.assertIs("_" in Shape("_ + _"), False)
        self.assertIs("<" in Shape("_ <= _"), False)
        self.assertIs(Shape("_ + _") in Shape("_ + _"), False)

    def test_len_is_the_number_of_words(self):
        self.assertEqual([len(Shape(text)) for text in ("_ a _", "a _ b", "a _ b _ c", "_ a _ b _ c _ d _")], [1, 2, 3, 4])

    def test_equal_shapes(self):
        for (one, *_), (other, *_) in itertools.product(SHAPES, SHAPES):
            self.assertIs(Shape(one) == Shape(other), one == other)
            self.assertIs(Shape(one) != Shape(other), one != other)
        self.assertIs(Shape.infix("+") == Shape("_ + _"), True)
        self.assertIs(Shape("_ a _ b _") == Shape("_ b _ a _"), False)

    def test_a_shape_equals_nothing_else(self):
        shape = Shape("_ + _")
        for value in OTHERS + ("_ + _", ("_ + _",), "Shape(_ + _)", Group("a")):
            self.assertIs(shape == value, False)
            self.assertIs(value == shape, False)
            self.assertIs(shape != value, True)

    def test_methods_are_defined_in_the_class(self):
        self.assertEqual(Shape.__module__, shapes.__name__)
        for name in ("infix", "prefix", "postfix", "words", "holes", "is_plain", "outer", "filled", "__contains__",
                     "__len__", "__eq__", "__repr__", "__init__"):
            self.assertIn(name, vars(Shape))
        for name in ("infix", "prefix", "postfix"):
            self.assertIsInstance(vars(Shape)[name], classmethod)
        for name in ("words", "holes", "is_plain", "outer"):
            self.assertIsInstance(vars(Shape)[name], property)


if __name__ == "__main__":
    unittest.main()
