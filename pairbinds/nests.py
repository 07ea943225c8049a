"""Nests: texts cut into rows, which lie in the shapes and brackets around them."""

from pairbinds.rows import Item, Row
from pairbinds.shapes import HOLE


class Begun:
    """A shape or bracket that has begun, with the row in the hole that is being filled."""

    def __init__(self, item, missing):
        self.item = item
        # The words and holes that must follow this row.
        self.missing = missing
        self.row = Row()


class Nest:
    """A text cut into rows, as far as there is a text with a reading that begins like it."""

    def __init__(self, forms, words):
        self._forms = forms
        self._operand = Item(self._forms.of(HOLE))
        # The first one stands for the whole text, the last one is the innermost.
        self._begun = [Begun(None, [])]
        self.row = self._begun[0].row
        self.stuck_at = self._first_stuck(words)

    def _first_stuck(self, words):
        """The index at which the words are stuck, or None."""
        for at, word in enumerate(words):
            if not self._takes(word):
                return at
        if len(self._begun) > 1 or self.row.ways() == 0:
            return len(words)
        return None

    def _takes(self, word):
        """Whether there is a text with a reading that goes on with this word; if so, it is taken in."""
        begun = self._begun[-1]
        if len(begun.missing) > 0 and begun.missing[0] == word:
            return self._ends_row(begun)
        # A word that can begin no item has no forms, and no row with it goes on.
        item = Item(self._forms.of(word))
        begun.row.put(item)
        missing = self._forms.missing_behind(word)
        if len(missing) > 0:
            self._begun.append(Begun(item, missing))
        # What a shape or bracket makes of the row around it does not depend on the rows within.
        return begun.row.can_go_on(self._operand)

    def _ends_row(self, begun):
        """Whether the innermost row is whole; if so, the next hole or the row around it is taken up again."""
        if begun.row.ways() == 0:
            return False
        begun.item.rows.append(begun.row)
        around = self._begun[-2].row
        around.times = around.times * begun.row.ways()
        begun.missing = begun.missing[2:]
        begun.row = Row()
        if len(begun.missing) == 0:
            self._begun.pop()
        return True
