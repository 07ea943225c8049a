"""Pages: libraries written in lines."""

from pairbinds.errors import BindError, InvalidPage, Missing
from pairbinds.library import Library
from pairbinds.lines import NO_GROUP, command_of

LIMIT = 8
# The first words of the lines that tell of the module above them.
PARTS = ("use", "group", "operator", "tie")


def _in_order(library):
    """The list of the modules, in which each one comes behind those that it uses."""
    told = []
    left = library.modules()
    while left:
        ready = [name for name in left if all([other in told for other in library.uses(name)])]
        told.append(ready[0])
        left.remove(ready[0])
    return told


def _lines_of(library, name):
    """The lines of a module."""
    book = library.book(name)
    # No two modules say the same group or shape.
    used = [library.book(other) for other in library.uses(name)]
    groups = [group for group in book.groups() if not any([group in other.groups() for other in used])]
    pairs = [pair for pair in book.operators() if not any([pair in other.operators() for other in used])]
    lines = [f"module {name}"]
    lines.extend([f"use {other}" for other in library.uses(name)])
    lines.extend([f"group {group.text}" for group in groups])
    for text, group_name in pairs:
        told_name = NO_GROUP if group_name is None else group_name
        lines.append(f"operator {told_name} {text}")
    lines.extend([f"tie {one} {other}" for one, other in library.said(name)])
    return lines


def write_page(library):
    """The page of a library."""
    lines = []
    for name in _in_order(library):
        lines.extend(_lines_of(library, name))
    return "".join([f"{line}\n" for line in lines])


def _is_done(library, words):
    """Whether words tell a command that can be done as a step; if so, it is done."""
    command = command_of(words)
    if command is None:
        return False
    try:
        library.apply(command)
    except (BindError, Missing):
        return False
    return True


def _done_lines(library, lines):
    """The number of the lines ahead of the first wrong one, which are done."""
    name = None
    for at, line in enumerate(lines):
        words = line.split(" ")
        if words[0] == "module":
            name = words[-1]
        elif words[0] in PARTS and name is not None:
            words = [words[0], name] + words[1:]
        else:
            return at
        if not _is_done(library, words):
            return at
    return len(lines)


def read_page(text):
    """The library with a page."""
    if not isinstance(text, str):
        raise InvalidPage(0)
    library = Library(limit=Library.MOST)
    # What stands behind the last line feed is a line only if it is not empty.
    *lines, rest = text.split("\n")
    done = _done_lines(library, lines)
    if done < len(lines) or rest != "" or write_page(library) != text:
        raise InvalidPage(done)
    library.limit = max(LIMIT, len(library))
    library.forget_steps()
    return library
