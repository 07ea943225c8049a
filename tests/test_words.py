import string
import unittest

from pairbinds import words
from pairbinds.errors import BindError, InvalidText
from pairbinds.words import SIGNS, is_letter_word, is_word, words_of
from values import OTHERS, nested

CHARACTERS = [chr(code) for code in range(128)]


class TestSigns(unittest.TestCase):
    def test_the_string(self):
        self.assertEqual(SIGNS, "!#&*+,-./:;<=>?@[]^{|}")
        self.assertIs(type(SIGNS), str)
        self.assertEqual(len(SIGNS), 22)

    def test_brackets_and_holes_are_no_signs(self):
        for character in "()_~%$'\"\\` ":
            self.assertNotIn(character, SIGNS)


class TestIsWord(unittest.TestCase):
    def test_each_single_character(self):
        for character in CHARACTERS:
            letter = character in string.ascii_lowercase
            self.assertIs(is_word(character), letter or character in SIGNS, character)
            self.assertIs(is_letter_word(character), letter, character)

    def test_each_character_in_a_longer_word(self):
        for character in CHARACTERS:
            letter = character in string.ascii_lowercase
            self.assertIs(is_word("a" + character + "b"), letter, character)
            self.assertIs(is_letter_word("a" + character), letter, character)
            self.assertIs(is_word("+" + character + "!"), character in SIGNS, character)

    def test_lengths_of_sign_words(self):
        for text, expected in (("+", True), ("<=", True), ("===", True), ("<->", True), ("====", False), ("", False)):
            self.assertIs(is_word(text), expected, text)
            self.assertIs(is_letter_word(text), False, text)

    def test_lengths_of_letter_words(self):
        for many in range(1, 12):
            text = "abcdefghijkl"[:many]
            self.assertIs(is_word(text), many <= 8, text)
            self.assertIs(is_letter_word(text), many <= 8, text)
        self.assertIs(is_letter_word("zzzzzzzz"), True)
        self.assertIs(is_letter_word("zzzzzzzzz"), False)

    def test_mixed_words(self):
        for text in ("a+", "+a", "a+b", "+a+", "a-b", "if?", "_", "a_", "a1", "aA", "a(", "+)"):
            self.assertIs(is_word(text), False, text)
            self.assertIs(is_letter_word(text), False, text)

    def test_other_values(self):
        for value in OTHERS:
            self.assertIs(is_word(value), False, value)
            self.assertIs(is_letter_word(value), False, value)

    def test_sequences_of_characters_are_no_words(self):
        for value in (["a", "b"], ("a", "b"), ["+"], ("+", "-"), [["a"]]):
            self.assertIs(is_word(value), False, value)
            self.assertIs(is_letter_word(value), False, value)

    def test_by_name(self):
        self.assertIs(is_word(value="+"), True)
        self.assertIs(is_letter_word(value="a"), True)

    def test_defined_here(self):
        for function in (is_word, is_letter_word, words_of):
            self.assertEqual(function.__module__, words.__name__)


class TestWordsOf(unittest.TestCase):
    def assert_wrong(self, text, at):
        with self.assertRaises(InvalidText) as caught:
            words_of(text)
        self.assertIs(type(caught.exception), InvalidText)
        self.assertEqual(caught.exception.at, at, text)
        self.assertIs(type(caught.exception.at), int)
        self.assertEqual(caught.exception.code, "InvalidText")
        self.assertIsInstance(caught.exception, BindError)

    def test_right_texts(self):
        for parts in (["a"], ["+"], ["("], [")"], ["a", "+", "b"], ["(", "a", ")"], [")", "("], ["a", "a"],
                      ["abcdefgh", "<=>", "abcdefgh"], ["[", "x", ",", "y", "]"], ["(", "(", ")"]):
            self.assertEqual(words_of(" ".join(parts)), parts)

    def test_a_list_that_is_new(self):
        first = words_of("a + b")
        self.assertIs(type(first), list)
        first.append("c")
        self.assertEqual(words_of("a + b"), ["a", "+", "b"])

    def test_by_name(self):
        self.assertEqual(words_of(text="a !"), ["a", "!"])

    def test_empty_items(self):
        for text, at in (("", 0), (" ", 0), ("  ", 0), (" a", 0), ("a ", 1), ("a  b", 1), ("a + ", 2),
                         ("a + b  c", 3), ("a +   b", 2)):
            self.assert_wrong(text, at)

    def test_wrong_items(self):
        for text, at in (("A", 0), ("a + B", 2), ("a+b", 0), ("a _ b", 1), ("_", 0), ("a ++++ b", 1),
                         ("a abcdefghi", 1), ("x (a )", 1), ("()", 0), ("a ) ((", 2),
                         ("a\nb", 0), ("a b\n", 1), ("\n", 0), ("a \n b", 1), ("a + 1", 2), ("a ~", 1), ("a $ b", 1)):
            self.assert_wrong(text, at)

    def test_the_first_wrong_item_counts(self):
        self.assert_wrong("a B C", 1)
        self.assert_wrong("a  B", 1)
        self.assert_wrong("A  ", 0)
        self.assert_wrong("a + _ ", 2)

    def test_many_words(self):
        for many in (1, 2, 59, 60):
            parts = ["a", "+", "("] * 20
            self.assertEqual(words_of(" ".join(parts[:many])), parts[:many])
        for many in (61, 62, 100, 1000):
            self.assert_wrong(" ".join(["a"] * many), 60)
            self.assert_wrong(" ".join(["("] * many), 60)
            self.assert_wrong(" ".join([")"] * many), 60)

    def test_more_than_sixty_and_wrong_items(self):
        right = " ".join(["a"] * 60)
        for behind in (" ", " A", "  ", " _", " a A", " \n"):
            self.assert_wrong(right + behind, 60)
        for at in (0, 30, 58, 59):
            parts = ["a"] * 70
            parts[at] = "A"
            self.assert_wrong(" ".join(parts), at)
        self.assert_wrong(" ".join(["a"] * 59) + " ", 59)
        self.assert_wrong(" ".join(["a"] * 59 + ["_"]), 59)

    def test_other_values(self):
        for value in (None, True, False, 0, 1, 5, (), [], ["a"], ("a", "+", "b"), [["a"]], nested(30, list)):
            self.assert_wrong(value, 0)

    def test_arguments_are_not_changed(self):
        given = ["a", ["+"]]
        self.assert_wrong(given, 0)
        self.assertEqual(given, ["a", ["+"]])


if __name__ == "__main__":
    unittest.main()
