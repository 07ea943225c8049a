"""Repairs: the fewest further ties with which a text has a reading."""

from pairbinds.choices import Choices, Lacking
from pairbinds.errors import Ring, TooMany
from pairbinds.forms import Forms, untied
from pairbinds.nests import Nest
from pairbinds.words import words_of

MOST_WORDS = 14


def lacks(book, tree):
    """The ascending list of the needs of a tree that are no ties of a book."""
    return [pair for pair in book.needs(tree) if pair not in book.ties]


def _can_be_tied(ties, pairs):
    """Whether some ties can have more pairs without a ring."""
    # This is told without closing the ties, and it is so for most pairs that make a ring.
    if any([(other, one) in pairs for one, other in pairs]):
        return False
    try:
        ties.with_ties(*pairs)
    except Ring:
        return False
    return True


def repair(book, text):
    """The pair of the lacks and the tree of a text that lacks the least, or None."""
    words = words_of(text)
    if len(words) > MOST_WORDS:
        raise TooMany("words", MOST_WORDS)
    nest = Nest(Forms(book, untied(book)), words)
    if nest.stuck_at is not None:
        return None
    lacking = Lacking(book.ties)
    trees = Choices(nest.row, lacking).of_row()
    rows = []
    for group, bits in trees:
        pairs = lacking.pairs(bits)
        rows.append((len(pairs), pairs, trees[(group, bits)]))
    for _, pairs, tree in sorted(rows):
        if _can_be_tied(book.ties, pairs):
            return (pairs, tree)
    return None
