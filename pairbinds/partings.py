"""Partings: texts with two readings in a book, and texts that two books read in different ways."""

from pairbinds.errors import TwoReadings, Unlike
from pairbinds.reading import stuck
from pairbinds.shapes import Shape
from pairbinds.trees import WORD, text_of
from pairbinds.words import LETTERS


def least_operand(book):
    """The shortest operand of a book, the alphabetically first one of these."""
    words = list(LETTERS)
    while True:
        for word in words:
            if book.is_operand(word):
                return word
        words = [word + letter for word in words for letter in LETTERS]


def _are_doubled(book, places, first, second):
    """Whether a text with these two words between two operands has two readings."""
    shapes = (f"_ {first} _", f"_ {first}", f"{second} _", f"_ {second} _")
    if not all([shape in places for shape in shapes]):
        return False
    infix, postfix, prefix, other_infix = [places[shape] for shape in shapes]
    return (prefix, infix) in book.ties and (postfix, other_infix) in book.ties


def two_readings(book):
    """A text of four words with two readings, or None if no text has two."""
    places = {text: name for text, name in book.operators()}
    words = []
    for text in places:
        words.extend(Shape(text).words)
    operand = least_operand(book)
    for first in sorted(words):
        for second in sorted(words):
            if _are_doubled(book, places, first, second):
                return f"{operand} {first} {second} {operand}"
    return None


def _check_parted(one, other):
    """Raise an error unless two books have the same operators in the same groups, and read no text in two ways."""
    if one.groups() != other.groups() or one.operators() != other.operators():
        raise Unlike()
    for book in (one, other):
        text = two_readings(book)
        if text is not None:
            raise TwoReadings(text)


def _nested_pairs(book):
    """The tuples of two shapes and an index of a hole of the first one, in which the second one is to stand."""
    shapes = [text for text, _ in book.operators()]
    return [(shape, child, hole) for shape in shapes for hole in range(Shape(shape).holes) for child in shapes]


def _nested(shape, child, hole, operand):
    """The tree of a shape in a hole of another shape, with an operand in all other holes."""
    inner = [operand] * Shape(child).holes
    trees = [operand] * Shape(shape).holes
    trees[hole] = (child, *inner)
    return (shape, *trees)


def parting(one, other):
    """A text with one reading in each of two books, which are unlike, or None."""
    _check_parted(one, other)
    operand = (WORD, least_operand(one))
    for shape, child, hole in _nested_pairs(one):
        if one.may_stand(child, shape, hole) and not other.may_stand(child, shape, hole):
            text = text_of(_nested(shape, child, hole, operand))
            if stuck(other, text) is None:
                return text
    return None
