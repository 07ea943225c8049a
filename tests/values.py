"""What tests of several modules pass: values of all kinds, for "any other value", and books."""

from pairbinds.books import Book
from pairbinds.shapes import Group


def nested(depth, kind):
    """Lists or tuples in each other."""
    value = kind()
    for _ in range(depth - 1):
        value = kind([value])
    return value


# None of these is a word, a name, a shape, a kind, a side or the text of a group.
OTHERS = (
    None, True, False, 0, 1, -1, 60, 999999999, -999999999,
    "", " ", "  ", "\n", "A", "aB", "a ", " a", "a\n", "\na", "a\nb", "a1", "1", "0", "_a", "a_", "__",
    "'", '"', "\\", "`", "~", "$", "(", ")", "()", "abcdefghi", "a" * 2000, "!!!!", "+" * 2000,
    "a+", "+a", "+ +", "a b c d e f", "None", "\u00e4", "\u0661",
    (), [], (1,), [1], ("a",), ["a"], ("+",), ["+"], [["a"]], (("a",), ["a"]), [None, True],
    ["_", "+", "_"], ("_", "+", "_"), ["a", "infix", "none"], ("a", "infix", "none"),
    nested(30, list), nested(30, tuple),
)


def made(groups, operators, ties=()):
    """The book with groups as a dict of (kind, side) and operators as a dict of names of groups."""
    listed = [Group(name, kind, side=side) for name, (kind, side) in groups.items()]
    return Book(listed, list(operators.items()), ties)
