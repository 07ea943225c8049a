"""Reading: the trees of a text in a book, and where a text can no longer be continued."""

from pairbinds.counts import is_number
from pairbinds.errors import BindError, InvalidNumber, NoReading, TwoReadings
from pairbinds.forms import Forms, tied
from pairbinds.nests import Nest
from pairbinds.words import words_of

MOST_READINGS = 20


def _nest_of(book, words):
    """The nest of some words, by the ties of the book."""
    return Nest(Forms(book, tied(book)), words)


def readings(book, text, *, most=2):
    """The ascending list of the readings of a text, or of so many of them."""
    words = words_of(text)
    if not is_number(most) or most < 1 or most > MOST_READINGS:
        raise InvalidNumber(most)
    nest = _nest_of(book, words)
    return sorted(nest.row.trees(most)) if nest.stuck_at is None else []


def how_many(book, text):
    """The number of the readings of a text."""
    nest = _nest_of(book, words_of(text))
    return nest.row.ways() if nest.stuck_at is None else 0


def read(book, text):
    """The only reading of a text."""
    nest = _nest_of(book, words_of(text))
    if nest.stuck_at is not None:
        raise NoReading(nest.stuck_at)
    if nest.row.ways() > 1:
        raise TwoReadings(text)
    return nest.row.trees(1)[0]


def stuck(book, text):
    """The index at which a text can no longer be continued, or None if it has a reading."""
    return _nest_of(book, words_of(text)).stuck_at


class Reader:
    """Reads texts in a book, and counts the calls."""

    def __init__(self, book):
        self._book = book
        self._asked = 0

    def __call__(self, text):
        self._asked += 1
        return read(self._book, text)

    @property
    def asked(self):
        """The number of the calls."""
        return self._asked

    def first(self, *texts):
        """The reading of the first text that has just one, or None."""
        for text in texts:
            try:
                return self(text)
            except BindError:
                pass
        return None
