"""Commands: what a library can be told to do with its modules."""

from pairbinds.errors import Circular, DuplicateName, Full, InUse, InvalidCommand, InvalidName, UnknownName, WrongKind
from pairbinds.modules import Module
from pairbinds.shapes import Group, Shape, is_name

# The number of the items of a command, by its first item.
SIZES = {"module": 2, "use": 3, "group": 3, "operator": 4, "tie": 4, "drop": 2}


def _is_command(value):
    """Whether a value is a tuple of one of the forms, whatever stands behind its first item."""
    if not isinstance(value, tuple) or len(value) == 0 or not isinstance(value[0], str):
        return False
    return SIZES.get(value[0], 0) == len(value)


def check_commands(commands):
    """Raise an error with the index of the first value that is no command, if there is one."""
    for at, command in enumerate(commands):
        if not _is_command(command):
            raise InvalidCommand(at)


def _new_module(shelf, most, name):
    if not is_name(name):
        raise InvalidName(name)
    if shelf.has(name):
        raise DuplicateName(name)
    if len(shelf.module_names()) >= most:
        raise Full(most)
    shelf.put(name, Module())


def _use(shelf, name, other):
    module = shelf.module(name)
    shelf.check_known(other)
    if name in shelf.reach(other):
        raise Circular(name)
    shelf.put(name, module.with_use(other))


def _new_group(shelf, name, text):
    module = shelf.module(name)
    group = Group.parsed(text)
    for other in shelf.modules():
        if group.name in [held.name for held in other.own_groups]:
            raise DuplicateName(group.name)
    shelf.put(name, module.with_group(group))


def _new_operator(shelf, name, text, group):
    module = shelf.module(name)
    shape = Shape(text)
    for other in shelf.modules():
        if text in [held for held, _ in other.own_operators]:
            raise DuplicateName(text)
    kind = "closed"
    if group is not None:
        kinds = {held.name: held.kind for held in shelf.groups_for(name)}
        if group not in list(kinds):
            raise UnknownName(group)
        kind = kinds[group]
    if shape.kind != kind:
        raise WrongKind(group)
    shelf.put(name, module.with_operator(text, group))


def _new_tie(shelf, name, one, other):
    module = shelf.module(name)
    names = [held.name for held in shelf.groups_for(name)]
    for group in (one, other):
        if group not in names:
            raise UnknownName(group)
    shelf.put(name, module.with_tie(one, other))


def _drop(shelf, name):
    shelf.check_known(name)
    users = shelf.users(name)
    if len(users) > 0:
        raise InUse(users[0])
    shelf.take_out(name)


ACTIONS = {"use": _use, "group": _new_group, "operator": _new_operator, "tie": _new_tie, "drop": _drop}


def do_command(shelf, most, command):
    """Do a command of a right form with the modules of a shelf, which may hold so many of them."""
    if command[0] == "module":
        _new_module(shelf, most, command[1])
    else:
        action = ACTIONS[command[0]]
        items = command[1:]
        action(shelf, *items)
