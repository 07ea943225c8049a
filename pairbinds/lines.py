"""Lines: commands written as words."""

from pairbinds.commands import SIZES

# What stands in the place of the group of a closed shape.
NO_GROUP = "-"


def command_of(words):
    """The command that some words tell, or None: each item is one word, but a text or shape is the rest of them."""
    many = len(words)
    if words[0] == "group" and many > 2:
        return ("group", words[1], " ".join(words[2:]))
    if words[0] == "operator" and many > 3:
        group = None if words[2] == NO_GROUP else words[2]
        return ("operator", words[1], " ".join(words[3:]), group)
    if words[0] in ("module", "use", "tie", "drop") and many == SIZES[words[0]]:
        return tuple(words)
    return None
