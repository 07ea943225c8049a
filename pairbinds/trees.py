"""Trees: operands, brackets, and shapes with trees in their holes."""

from pairbinds.errors import InvalidTree
from pairbinds.shapes import HOLE, Shape, is_shape
from pairbinds.words import is_letter_word

WORD = "word"
ROUND = "round"
BRACKETED = "( _ )"


def _is_formed(value):
    """Whether a value has the form of a tree, whatever stands in the places of the trees in it."""
    if not isinstance(value, tuple) or len(value) < 2:
        return False
    if value[0] == WORD:
        return len(value) == 2 and is_letter_word(value[1])
    if value[0] == ROUND:
        return len(value) == 2
    return is_shape(value[0]) and Shape(value[0]).holes == len(value) - 1


def _trees_in(part):
    """The trees directly in a part."""
    return () if part[0] == WORD else part[1:]


def _below(path, part):
    """The pairs (path, tree) for the trees directly in a part, the last one first."""
    return [(path + (at,), tree) for at, tree in enumerate(_trees_in(part))][::-1]


def _first_wrong(value):
    """The path of the first part that is wrong, or None."""
    left = [((), value)]
    while left:
        path, part = left.pop()
        if not _is_formed(part):
            return path
        left.extend(_below(path, part))
    return None


def is_tree(value):
    """Whether a value is a tree."""
    return _first_wrong(value) is None


def check_tree(value):
    """Raise an error with the path of the first part that is wrong, if there is one."""
    path = _first_wrong(value)
    if path is not None:
        raise InvalidTree(path)


def parts_of(tree):
    """The pairs (path, part) in the order of the text, a tree ahead of the trees in it."""
    check_tree(tree)
    left = [((), tree)]
    while left:
        path, part = left.pop()
        yield path, part
        left.extend(_below(path, part))


def is_bare(tree):
    """Whether a tree has a shape that is not closed."""
    return tree[0] != WORD and tree[0] != ROUND and Shape(tree[0]).kind != "closed"


def _pieces(part):
    """The words and trees that stand beside each other in the text of a part."""
    if part[0] == WORD:
        return [part[1]]
    shape = BRACKETED if part[0] == ROUND else part[0]
    pieces = []
    used = 0
    for own in shape.split(" "):
        if own == HOLE:
            used += 1
        pieces.append(part[used] if own == HOLE else own)
    return pieces


def text_of(tree):
    """The text of a tree."""
    check_tree(tree)
    words = []
    left = [tree]
    while left:
        piece = left.pop()
        if isinstance(piece, str):
            words.append(piece)
        else:
            left.extend(_pieces(piece)[::-1])
    return " ".join(words)


def _without_rounds(tree):
    """A right tree without its "round"s."""
    if tree[0] == WORD:
        return tree
    trees = [_without_rounds(part) for part in tree[1:]]
    return trees[0] if tree[0] == ROUND else (tree[0], *trees)


def plain(tree):
    """The tree without its "round"s."""
    check_tree(tree)
    return _without_rounds(tree)


def _with_rounds(tree):
    """A plain tree with a "round" around each bare tree in it."""
    if tree[0] == WORD:
        return tree
    trees = [_with_rounds(part) for part in tree[1:]]
    trees = [(ROUND, part) if is_bare(part) else part for part in trees]
    return (tree[0], *trees)


def full_text(tree):
    """The text of the plain tree with brackets around each bare tree in it, but not around the whole."""
    return text_of(_with_rounds(plain(tree)))
