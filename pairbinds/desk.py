"""Desks: libraries that answer lines of words."""

from pairbinds.errors import BindError, Missing, NothingLeft
from pairbinds.library import Library
from pairbinds.lines import command_of
from pairbinds.reading import stuck
from pairbinds.trees import full_text

DONE = "done"
NONE = "none"
UNKNOWN = "unknown"


def _needed(book):
    """The needed ties of a book, as words."""
    told = [f"{one}>{other}" for one, other in book.ties.needed()]
    return " ".join(told) if told else NONE


class Desk:
    """Answers lines with a library, and keeps what was asked and answered."""

    def __init__(self, *, library=None):
        # A library without modules is as good as any other one.
        self._library = Library() if library is None else library
        self._log = []

    def __call__(self, line):
        return self.say(line)

    def say(self, line):
        """The answer to a line."""
        answer = self._answer_to(line.split(" "))
        self._log.append((line, answer))
        return answer

    def _answer_to(self, words):
        """The answer to some words, or to what stands between spaces."""
        if "" in words:
            return UNKNOWN
        try:
            return self._told(words)
        except (BindError, Missing, NothingLeft) as error:
            return f"error {error.code}"

    def _told(self, words):
        """What is told of some words if no error is raised."""
        command = command_of(words)
        if command is not None:
            self._library.apply(command)
            return DONE
        if len(words) == 1:
            return self._told_of_all(words[0])
        if len(words) == 2 and words[0] == "needed":
            return _needed(self._library.book(words[1]))
        if len(words) > 2:
            return self._told_of_text(words[0], words[1], " ".join(words[2:]))
        return UNKNOWN

    def _told_of_all(self, word):
        """What is told of a line of one word."""
        if word == "undo":
            self._library.undo()
            return DONE
        if word == "redo":
            self._library.redo()
            return DONE
        if word == "names":
            names = self._library.modules()
            return " ".join(names) if names else NONE
        return UNKNOWN

    def _told_of_text(self, word, name, text):
        """What is told of a text in a module."""
        if word == "read":
            return full_text(self._library.read(name, text))
        if word == "stuck":
            at = stuck(self._library.book(name), text)
            return NONE if at is None else str(at)
        return UNKNOWN

    def library(self):
        """The library itself."""
        return self._library

    def log(self):
        """The list of the pairs of a line and its answer."""
        return list(self._log)

    def __len__(self):
        return len(self._log)
