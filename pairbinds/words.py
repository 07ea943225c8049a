"""Words, and texts of words and brackets."""

from pairbinds.errors import InvalidText

SIGNS = "!#&*+,-./:;<=>?@[]^{|}"
LETTERS = "abcdefghijklmnopqrstuvwxyz"
BRACKETS = ("(", ")")
MOST_SIGNS = 3
MOST_LETTERS = 8
MOST_WORDS = 60


def _is_made_of(value, characters, most):
    """Whether a value is a string of 1 to so many of these characters."""
    if not isinstance(value, str) or len(value) < 1 or len(value) > most:
        return False
    return all([character in characters for character in value])


def _is_sign_word(value):
    return _is_made_of(value, SIGNS, MOST_SIGNS)


def is_letter_word(value):
    """Whether a value is a word of lowercase letters."""
    return _is_made_of(value, LETTERS, MOST_LETTERS)


def is_word(value):
    """Whether a value is a sign word or a letter word."""
    return _is_sign_word(value) or is_letter_word(value)


def words_of(text):
    """The list of the words and brackets of a text."""
    if not isinstance(text, str):
        raise InvalidText(0)
    parts = text.split(" ")
    for at, part in enumerate(parts):
        # One part too many is an error whatever it is, so it is not looked at.
        if at == MOST_WORDS or not (part in BRACKETS or is_word(part)):
            raise InvalidText(at)
    return parts
