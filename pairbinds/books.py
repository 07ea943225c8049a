"""Books: groups, the operators in them, and the ties between them."""

from pairbinds.counts import is_number
from pairbinds.errors import DuplicateName, InvalidNumber, Shared, TooMany, Unfit, UnknownName, WrongKind
from pairbinds.shapes import Group, Shape
from pairbinds.ties import Ties
from pairbinds.trees import ROUND, WORD, parts_of
from pairbinds.words import LETTERS, is_letter_word


def _checked_kinds(groups):
    """The dict of the kinds of the groups by their names."""
    if len(groups) > Book.MOST_GROUPS:
        raise TooMany("groups", Book.MOST_GROUPS)
    kinds = {}
    for group in groups:
        if group.name in kinds:
            raise DuplicateName(group.name)
        kinds[group.name] = group.kind
    return kinds


def _checked_shapes(kinds, operators):
    """The dict of the shapes of the operators by their texts."""
    if len(operators) > Book.MOST_OPERATORS:
        raise TooMany("operators", Book.MOST_OPERATORS)
    shapes = {}
    for text, name in operators:
        shape = Shape(text)
        if text in shapes:
            raise DuplicateName(text)
        if name is not None and name not in list(kinds):
            raise UnknownName(name)
        kind = "closed" if name is None else kinds[name]
        if shape.kind != kind:
            raise WrongKind(name)
        shapes[text] = shape
    return shapes


def _checked_words(shapes):
    """The dict of the words of the shapes, with whether the shapes of a word are plain."""
    plain_words = {}
    for shape in shapes:
        for word in shape.words:
            if word in plain_words and not (plain_words[word] and shape.is_plain):
                raise Shared(word)
            plain_words[word] = shape.is_plain
    return plain_words


def _placed_parts(tree):
    """The list of (path, part, first item of the tree around, index in it) for the parts of a tree, in order."""
    heads = {}
    placed = []
    for path, part in parts_of(tree):
        heads[path] = part[0]
        # All trees may stand alone, as they may in brackets.
        around = heads[path[:-1]] if path else ROUND
        placed.append((path, part, around, path[-1] if path else 0))
    return placed


class Book:
    """Groups with different names, operators that lie in them, and ties about their names."""

    MOST_GROUPS = 12
    MOST_OPERATORS = 30

    def __init__(self, groups, operators, ties=()):
        kinds = _checked_kinds(groups)
        shapes = _checked_shapes(kinds, operators)
        words = _checked_words(list(shapes.values()))
        self._ties = Ties(list(kinds), ties)
        ordered = sorted(groups, key=lambda row: row.name)
        self._groups = {group.name: group for group in ordered}
        self._shapes = {text: shapes[text] for text in sorted(list(shapes))}
        self._places = {text: name for text, name in operators}
        self._words = words

    @classmethod
    def chained(cls, *words):
        """The book with a plain infix shape for each word, each tied tighter than the next one."""
        shapes = [Shape.infix(word).text for word in words]
        names = list(LETTERS[:len(words)])
        groups = [Group(name, side="left") for name in names]
        return cls(groups, list(zip(shapes, names)), list(zip(names, names[1:])))

    def groups(self):
        """The list of the groups, ascending by name."""
        return list(self._groups.values())

    def operators(self):
        """The ascending list of the pairs of the text of a shape and the name of its group, or None."""
        return [(text, self._places[text]) for text in self._shapes]

    @property
    def ties(self):
        """The ties about the names of the groups."""
        return self._ties

    def _check_operator(self, text):
        if not isinstance(text, str) or text not in self._shapes:
            raise UnknownName(text)

    def group_of(self, shape):
        """The name of the group of the text of a shape, or None for a closed one."""
        self._check_operator(shape)
        return self._places[shape]

    def is_operand(self, value):
        """Whether a value is a letter word and no word of the book."""
        return is_letter_word(value) and value not in self._words

    def _rivals(self, child, around, hole):
        """The groups of a bare tree and of the shape in whose outer hole it is to stand; None for other ones."""
        if child == WORD or child == ROUND or around == ROUND:
            return None
        if self._places[child] is None or hole not in self._shapes[around].outer:
            return None
        return (self._places[child], self._places[around])

    def _is_on_side(self, around, hole):
        """Whether an outer hole is on the side of the group of its shape."""
        side = self._groups[self._places[around]].side
        if side == "left":
            return hole == 0
        if side == "right":
            return hole > 0
        return side == "many"

    def _can_stand(self, child, around, hole):
        """Whether a tree may stand in a hole with some ties."""
        rivals = self._rivals(child, around, hole)
        return rivals is None or rivals[0] != rivals[1] or self._is_on_side(around, hole)

    def _stands(self, child, around, hole):
        """Whether a tree may stand in a hole with the ties of the book."""
        rivals = self._rivals(child, around, hole)
        if rivals is None:
            return True
        if rivals[0] == rivals[1]:
            return self._is_on_side(around, hole)
        return rivals in self._ties

    def may_stand(self, child, shape, hole):
        """Whether a tree with one shape may stand in a hole of another shape."""
        self._check_operator(child)
        self._check_operator(shape)
        if not is_number(hole) or hole < 0 or hole >= self._shapes[shape].holes:
            raise InvalidNumber(hole)
        return self._stands(child, shape, hole)

    def is_foreign(self, part):
        """Whether a part is of no operator, or an operand that is a word of the book."""
        if part[0] == WORD:
            return not self.is_operand(part[1])
        return part[0] != ROUND and part[0] not in self._shapes

    def unfit(self, tree):
        """The path of the first part that does not fit, or None."""
        for path, part, around, hole in _placed_parts(tree):
            if self.is_foreign(part) or not self._stands(part[0], around, hole):
                return path
        return None

    def needs(self, tree):
        """The ascending list of the ties without which a tree does not fit."""
        needed = {}
        for path, part, around, hole in _placed_parts(tree):
            if self.is_foreign(part) or not self._can_stand(part[0], around, hole):
                raise Unfit(path)
            rivals = self._rivals(part[0], around, hole)
            if rivals is not None and rivals[0] != rivals[1]:
                needed[rivals] = True
        return sorted(list(needed))

    def with_ties(self, *pairs):
        """The book with more ties."""
        return Book(self.groups(), self.operators(), self._ties.needed() + list(pairs))

    def __or__(self, other):
        groups = self.groups()
        texts = [group.text for group in groups]
        operators = self.operators()
        return Book(
            groups + [group for group in other.groups() if group.text not in texts],
            operators + [pair for pair in other.operators() if pair not in operators],
            self._ties.needed() + other.ties.needed(),
        )

    def __eq__(self, other):
        return (isinstance(other, Book) and self.groups() == other.groups()
                and self.operators() == other.operators() and self._ties == other.ties)

    def __len__(self):
        return len(self._shapes)

    def __repr__(self):
        return f"Book({len(self._shapes)} operators)"
