"""Forms: what a word of a text may be in a book."""

from pairbinds.shapes import HOLE, Shape
from pairbinds.trees import BRACKETED, ROUND, WORD


class Form:
    """One way to read a word as an item: the tree as far as it is known, and what may stand beside it."""

    def __init__(self, begun, group, before, behind):
        self.begun = begun
        # The name of the group of a bare tree, None for all other trees.
        self.group = group
        # The groups, and None, of the trees that may stand in the first and in the last outer hole.
        self.before = before
        self.behind = behind


def tied(book):
    """For each group of a book, the list of the groups that bind tighter."""
    return {name: book.ties.above(name) for name in book.ties.names}


def untied(book):
    """For each group of a book, the list of all others, since some ties make each of them bind tighter."""
    names = book.ties.names
    return {name: [other for other in names if other != name] for name in names}


def _standing(tighter, group, side):
    """The groups, and None, of the trees that may stand in an outer hole on a side of a shape of a group."""
    names = [None] + tighter[group.name]
    if group.side in (side, "many"):
        names.append(group.name)
    return {name: True for name in names}


class Forms:
    """The forms of the words of a book, by the groups that may stand in the outer holes of each group."""

    def __init__(self, book, tighter):
        self._book = book
        self._forms = {}
        self._missing = {}
        self._put(BRACKETED, "closed", Form((ROUND,), None, {}, {}))
        groups = {group.name: group for group in book.groups()}
        for text, name in book.operators():
            kind = Shape(text).kind
            if name is None:
                form = Form((text,), None, {}, {})
            else:
                before = _standing(tighter, groups[name], "left")
                behind = _standing(tighter, groups[name], "right")
                form = Form((text,), name, before, behind)
            self._put(text, kind, form)

    def _put(self, text, kind, form):
        """Take in the form of a shape for its first word."""
        parts = text.split(" ")
        at = 1 if parts[0] == HOLE else 0
        forms = self._forms.setdefault(parts[at], {})
        forms[kind] = form
        # For a plain shape, the part behind the word is no inner hole, and nothing is missing.
        self._missing[parts[at]] = parts[at + 2:]

    def of(self, word):
        """The dict of the forms of a word by their kinds, if it can begin an item; a hole is any operand."""
        if word == HOLE or self._book.is_operand(word):
            return {"closed": Form((WORD, word), None, {}, {})}
        return dict(self._forms.get(word, {}))

    def missing_behind(self, word):
        """The words and holes that must follow the first hole within a shape or bracket that a word begins."""
        return list(self._missing.get(word, []))
