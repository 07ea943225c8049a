"""Outcomes: what came of reading a text, in a form that can be kept."""

from pairbinds.errors import InvalidText, NoReading, TwoReadings
from pairbinds.reading import read


class Outcome:
    """The tree that was read, or the code of the error that was raised and what it told; it never changes."""

    def __init__(self, code, thing):
        # The code is the empty string for a tree.
        self._code = code
        self._thing = thing

    def tree(self):
        """The tree that was read; raises a new error where one was raised."""
        if self._code == "InvalidText":
            raise InvalidText(self._thing)
        if self._code == "NoReading":
            raise NoReading(self._thing)
        if self._code == "TwoReadings":
            raise TwoReadings(self._thing)
        return self._thing


def outcome_of(book, text):
    """What comes of reading a text in a book."""
    try:
        tree = read(book, text)
    except (InvalidText, NoReading) as error:
        return Outcome(error.code, error.at)
    except TwoReadings:
        return Outcome("TwoReadings", text)
    return Outcome("", tree)
