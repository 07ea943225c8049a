"""Shapes of operators, and the groups in which operators lie."""

from pairbinds.errors import (
    InvalidKind, InvalidName, InvalidNumber, InvalidShape, InvalidSide, InvalidText, InvalidWord,
)
from pairbinds.words import is_letter_word, is_word

HOLE = "_"
# The last side of each kind is the one that None stands for.
SIDES = {
    "prefix": ("many", "once"),
    "postfix": ("many", "once"),
    "infix": ("left", "right", "none"),
}


def _holes_and_words(parts):
    """The parts at the places of holes and those at the places of words."""
    if parts[0] == HOLE:
        return parts[0::2], parts[1::2]
    return parts[1::2], parts[0::2]


def _kind_of(parts):
    """The kind of the shape with these parts."""
    if parts[0] == HOLE and parts[-1] == HOLE:
        return "infix"
    if parts[0] == HOLE:
        return "postfix"
    if parts[-1] == HOLE:
        return "prefix"
    return "closed"


def _outer_of(kind, holes):
    """The indexes of the outer holes of a shape of a kind with so many holes."""
    if kind == "infix":
        return (0, holes - 1)
    if kind == "prefix":
        return (holes - 1,)
    if kind == "postfix":
        return (0,)
    return ()


def _checked(word):
    """The word, if it is one."""
    if not is_word(word):
        raise InvalidWord(word)
    return word


def is_shape(value):
    """Whether a value is the text of a shape."""
    if not isinstance(value, str):
        return False
    holes, words = _holes_and_words(value.split(" "))
    if len(holes) < 1 or len(words) < 1 or len(words) > Shape.MOST:
        return False
    if not all([hole == HOLE for hole in holes]) or not all([is_word(word) for word in words]):
        return False
    return len(set(words)) == len(words)


def is_name(value):
    """Whether a value is a name of a group."""
    return is_letter_word(value)


class Shape:
    """Words and holes in turn, as `_ ? _ : _`."""

    MOST = 4

    def __init__(self, text):
        if not is_shape(text):
            raise InvalidShape(text)
        parts = text.split(" ")
        holes, words = _holes_and_words(parts)
        self.text = text
        self.kind = _kind_of(parts)
        self._parts = tuple(parts)
        self._words = tuple(words)
        self._holes = len(holes)

    @classmethod
    def infix(cls, word):
        """The plain infix shape with a word."""
        return cls(f"_ {_checked(word)} _")

    @classmethod
    def prefix(cls, word):
        """The plain prefix shape with a word."""
        return cls(f"{_checked(word)} _")

    @classmethod
    def postfix(cls, word):
        """The plain postfix shape with a word."""
        return cls(f"_ {_checked(word)}")

    @property
    def words(self):
        """The tuple of the words."""
        return self._words

    @property
    def holes(self):
        """The number of the holes."""
        return self._holes

    @property
    def is_plain(self):
        """Whether there is one word only."""
        return len(self._words) == 1

    @property
    def outer(self):
        """The ascending tuple of the indexes of the outer holes among the holes."""
        return _outer_of(self.kind, self._holes)

    def filled(self, *parts):
        """The string that has strings in the place of the holes."""
        if len(parts) != self._holes:
            raise InvalidNumber(len(parts))
        told = []
        used = 0
        for own in self._parts:
            if own == HOLE:
                told.append(parts[used])
                used += 1
            else:
                told.append(own)
        return " ".join(told)

    def __contains__(self, word):
        return isinstance(word, str) and word in self._words

    def __len__(self):
        return len(self._words)

    def __eq__(self, other):
        return isinstance(other, Shape) and self.text == other.text

    def __repr__(self):
        return f"Shape({self.text})"


class Group:
    """A group of operators of one kind, with the side on which it may stand in itself."""

    def __init__(self, name, kind="infix", *, side=None):
        if not is_name(name):
            raise InvalidName(name)
        if not isinstance(kind, str) or kind not in SIDES:
            raise InvalidKind(kind)
        sides = SIDES[kind]
        if side is not None and side not in sides:
            raise InvalidSide(side)
        self.name = name
        self.kind = kind
        self.side = sides[-1] if side is None else side
        self.text = f"{self.name} {self.kind} {self.side}"

    @staticmethod
    def parsed(text):
        """The group with a text such as `sum infix left`."""
        parts = text.split(" ") if isinstance(text, str) else []
        if len(parts) != 3:
            raise InvalidText(0)
        name, kind, side = parts
        if not is_name(name) or kind not in SIDES or side not in SIDES[kind]:
            raise InvalidText(0)
        return Group(name, kind, side=side)

    def __eq__(self, other):
        return isinstance(other, Group) and self.text == other.text

    def __repr__(self):
        return f"Group({self.text})"
