"""Writing: trees with the fewest brackets, and the operators of a book in columns."""

from pairbinds.errors import Unfit
from pairbinds.shapes import Shape
from pairbinds.trees import ROUND, WORD, parts_of, plain, text_of


def _check_known(book, tree):
    """Raise an error with the path of the first part of a tree that is not of the book, if there is one."""
    for path, part in parts_of(tree):
        if book.is_foreign(part):
            raise Unfit(path)


def _with_needed_rounds(book, tree):
    """A plain tree with a "round" around each tree in it that may not stand where it does."""
    if tree[0] == WORD:
        return tree
    trees = []
    for hole, part in enumerate(tree[1:]):
        written_part = _with_needed_rounds(book, part)
        stands = part[0] == WORD or book.may_stand(part[0], tree[0], hole)
        trees.append(written_part if stands else (ROUND, written_part))
    return (tree[0], *trees)


def rounded(book, tree):
    """The plain tree with a "round" around just those bare trees that may not stand where they do."""
    bared = plain(tree)
    _check_known(book, bared)
    return _with_needed_rounds(book, bared)


def written(book, tree):
    """The text of a tree with the fewest brackets."""
    return text_of(rounded(book, tree))


def columns(book):
    """The list of a line for each operator: its shape, its group, its kind, and how many groups that one is above."""
    lines = []
    for text, name in book.operators():
        told_name = "-" if name is None else name
        many = 0 if name is None else len(book.ties.below(name))
        lines.append(f"{text:<20} {told_name:<8} {Shape(text).kind:<7} {many:>2}")
    return lines
