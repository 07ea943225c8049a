"""The errors of the package."""


def _copied(value):
    """A value with new lists in it, so that an error stays as it was raised."""
    if isinstance(value, list):
        return [_copied(part) for part in value]
    if isinstance(value, tuple):
        return tuple([_copied(part) for part in value])
    return value


class BindError(ValueError):
    """Something that was passed is wrong."""


class Missing(LookupError):
    """Something that was asked for is not there."""


class InvalidWord(BindError):
    """A value that is no word."""

    def __init__(self, given):
        super().__init__(f"not a word: {given!r}")
        self.given = _copied(given)
        self.code = "InvalidWord"


class InvalidText(BindError):
    """A text that is wrong from an index on."""

    def __init__(self, at):
        super().__init__(f"wrong text at index {at!r}")
        self.at = _copied(at)
        self.code = "InvalidText"


class InvalidShape(BindError):
    """A value that is no text of a shape."""

    def __init__(self, given):
        super().__init__(f"not a shape: {given!r}")
        self.given = _copied(given)
        self.code = "InvalidShape"


class InvalidName(BindError):
    """A value that is no name."""

    def __init__(self, given):
        super().__init__(f"not a name: {given!r}")
        self.given = _copied(given)
        self.code = "InvalidName"


class InvalidKind(BindError):
    """A value that is no kind of a group."""

    def __init__(self, given):
        super().__init__(f"not a kind of a group: {given!r}")
        self.given = _copied(given)
        self.code = "InvalidKind"


class InvalidSide(BindError):
    """A value that is no side of a group of its kind."""

    def __init__(self, given):
        super().__init__(f"not a side for this kind: {given!r}")
        self.given = _copied(given)
        self.code = "InvalidSide"


class InvalidTree(BindError):
    """A tree with a wrong part at a path."""

    def __init__(self, path):
        super().__init__(f"not a tree at path {path!r}")
        self.path = _copied(path)
        self.code = "InvalidTree"


class InvalidNumber(BindError):
    """A value that is not the number that is asked for."""

    def __init__(self, given):
        super().__init__(f"not a fitting number: {given!r}")
        self.given = _copied(given)
        self.code = "InvalidNumber"


class InvalidCommand(BindError):
    """A command, by its index, that is of no form."""

    def __init__(self, at):
        super().__init__(f"not a command at index {at!r}")
        self.at = _copied(at)
        self.code = "InvalidCommand"


class InvalidLimit(BindError):
    """A value that can be no limit of a library."""

    def __init__(self, given):
        super().__init__(f"not a limit: {given!r}")
        self.given = _copied(given)
        self.code = "InvalidLimit"


class InvalidPage(BindError):
    """A page with a wrong line, by its index."""

    def __init__(self, row):
        super().__init__(f"wrong page at line {row!r}")
        self.row = _copied(row)
        self.code = "InvalidPage"


class DuplicateName(BindError):
    """A name or shape that is there already."""

    def __init__(self, name):
        super().__init__(f"there already: {name!r}")
        self.name = _copied(name)
        self.code = "DuplicateName"


class WrongKind(BindError):
    """A group that is not of the kind of a shape."""

    def __init__(self, name):
        super().__init__(f"a group of another kind: {name!r}")
        self.name = _copied(name)
        self.code = "WrongKind"


class Shared(BindError):
    """A word that a shape must not share with another one."""

    def __init__(self, word):
        super().__init__(f"a word of another shape: {word!r}")
        self.word = _copied(word)
        self.code = "Shared"


class Ring(BindError):
    """Names that bind tighter than each other in a ring."""

    def __init__(self, ring):
        super().__init__(f"a ring of names: {ring!r}")
        self.ring = _copied(ring)
        self.code = "Ring"


class Unfit(BindError):
    """A tree that does not fit, by the path of a part."""

    def __init__(self, path):
        super().__init__(f"does not fit at path {path!r}")
        self.path = _copied(path)
        self.code = "Unfit"


class NoReading(BindError):
    """A text without a reading, which is stuck at an index."""

    def __init__(self, at):
        super().__init__(f"no reading, stuck at index {at!r}")
        self.at = _copied(at)
        self.code = "NoReading"


class TwoReadings(BindError):
    """A text with more than one reading."""

    def __init__(self, text):
        super().__init__(f"more than one reading: {text!r}")
        self.text = _copied(text)
        self.code = "TwoReadings"


class Unlike(BindError):
    """Two things that cannot be brought together."""

    def __init__(self):
        super().__init__("these two are unlike")
        self.code = "Unlike"


class TooMany(BindError):
    """More things of a sort than there may be."""

    def __init__(self, subject, most):
        super().__init__(f"more {subject} than {most!r}")
        self.subject = _copied(subject)
        self.most = _copied(most)
        self.code = "TooMany"


class Circular(BindError):
    """A module that would use itself."""

    def __init__(self, name):
        super().__init__(f"would use itself: {name!r}")
        self.name = _copied(name)
        self.code = "Circular"


class InUse(BindError):
    """A module that another one uses."""

    def __init__(self, user):
        super().__init__(f"in use by {user!r}")
        self.user = _copied(user)
        self.code = "InUse"


class Full(BindError):
    """A library that has as many modules as it may."""

    def __init__(self, most):
        super().__init__(f"full with {most!r}")
        self.most = _copied(most)
        self.code = "Full"


class UnknownName(Missing):
    """A name or shape that is not there."""

    def __init__(self, name):
        super().__init__(f"not there: {name!r}")
        self.name = _copied(name)
        self.code = "UnknownName"


class NothingLeft(IndexError):
    """No step that could be undone or redone."""

    def __init__(self):
        super().__init__("nothing is left")
        self.code = "NothingLeft"
