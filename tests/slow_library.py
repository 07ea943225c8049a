"""A library told straight from the points of the document, to compare with; only its books are the package's own."""

import copy

from pairbinds.books import Book
from pairbinds.errors import (
    BindError, Circular, DuplicateName, Full, InUse, InvalidCommand, InvalidLimit, InvalidName, InvalidText, Missing,
    NothingLeft, UnknownName, WrongKind,
)
from pairbinds.reading import read
from pairbinds.shapes import Group, Shape

SIZES = {"module": 2, "use": 3, "group": 3, "operator": 4, "tie": 4, "drop": 2}


def told(call, *arguments, **named):
    """What a call returns, or the class and the content of the error that it raises."""
    try:
        return ("returned", call(*arguments, **named))
    except (BindError, Missing, NothingLeft) as error:
        return ("raised", type(error).__name__, vars(error))


def is_name(value):
    return isinstance(value, str) and 1 <= len(value) <= 8 and all("a" <= letter <= "z" for letter in value)


class SlowLibrary:
    def __init__(self, limit=8):
        self.mods = {}
        self.past = []
        self.future = []
        self.readings = {}
        self.computed = 0
        self.limit = 12
        self.set_limit(limit)

    def set_limit(self, value):
        if type(value) is not int or not max(1, len(self.mods)) <= value <= 12:
            raise InvalidLimit(value)
        self.limit = value

    def need(self, mods, name):
        if not isinstance(name, str) or name not in mods:
            raise UnknownName(name)

    def reach(self, mods, name):
        """A module and all that it uses, directly or not."""
        found = {name}
        for other in mods[name]["uses"]:
            found |= self.reach(mods, other)
        return found

    def book_in(self, mods, name):
        self.need(mods, name)
        own = [mods[one] for one in sorted(self.reach(mods, name))]
        groups = [Group.parsed(text) for mod in own for text in mod["groups"].values()]
        operators = [pair for mod in own for pair in mod["operators"].items()]
        ties = [pair for mod in own for pair in mod["ties"]]
        return Book(sorted(groups, key=lambda group: group.name), sorted(operators, key=lambda pair: pair[0]),
                    sorted(ties))

    def books_in(self, mods):
        return {name: self.book_in(mods, name) for name in sorted(mods)}

    def do(self, mods, command):
        word, name, *rest = command
        if word == "module":
            if not is_name(name):
                raise InvalidName(name)
            if name in mods:
                raise DuplicateName(name)
            if len(mods) >= self.limit:
                raise Full(self.limit)
            mods[name] = {"groups": {}, "operators": {}, "ties": set(), "uses": set()}
            return
        self.need(mods, name)
        if word == "drop":
            users = sorted(other for other in mods if name in mods[other]["uses"])
            if users:
                raise InUse(users[0])
            del mods[name]
        elif word == "use":
            self.need(mods, rest[0])
            if name in self.reach(mods, rest[0]):
                raise Circular(name)
            mods[name]["uses"].add(rest[0])
        elif word == "group":
            group = Group.parsed(rest[0])
            if any(group.name in mod["groups"] for mod in mods.values()):
                raise DuplicateName(group.name)
            mods[name]["groups"][group.name] = group.text
        else:
            known = {group: text.split(" ")[1] for one in self.reach(mods, name)
                     for group, text in mods[one]["groups"].items()}
            if word == "tie":
                for group in rest:
                    if group not in list(known):
                        raise UnknownName(group)
                mods[name]["ties"].add(tuple(rest))
            else:
                self.do_operator(mods, name, known, *rest)

    def do_operator(self, mods, name, known, text, group):
        shape = Shape(text)
        if any(text in mod["operators"] for mod in mods.values()):
            raise DuplicateName(text)
        if group is not None and group not in list(known):
            raise UnknownName(group)
        if shape.kind != ("closed" if group is None else known[group]):
            raise WrongKind(group)
        mods[name]["operators"][text] = group

    def behind(self, commands):
        for at, command in enumerate(commands):
            right = isinstance(command, tuple) and command and isinstance(command[0], str)
            if not right or SIZES.get(command[0]) != len(command):
                raise InvalidCommand(at)
        mods = copy.deepcopy(self.mods)
        for command in commands:
            self.do(mods, command)
        self.books_in(mods)
        return mods

    def put_up(self, mods):
        before, behind = self.books_in(self.mods), self.books_in(mods)
        self.readings = {key: held for key, held in self.readings.items()
                         if key[0] in behind and before[key[0]] == behind[key[0]]}
        self.mods = mods

    def apply(self, *commands):
        mods = self.behind(commands)
        self.past.append(self.mods)
        self.future = []
        self.put_up(mods)

    def undo(self):
        if not self.past:
            raise NothingLeft()
        self.future.append(self.mods)
        self.put_up(self.past.pop())

    def redo(self):
        if not self.future:
            raise NothingLeft()
        self.past.append(self.mods)
        self.put_up(self.future.pop())

    def history(self):
        return (len(self.past), len(self.future))

    def modules(self):
        return sorted(self.mods)

    def uses(self, name):
        self.need(self.mods, name)
        return sorted(self.mods[name]["uses"])

    def said(self, name):
        self.need(self.mods, name)
        return sorted(self.mods[name]["ties"])

    def book(self, name):
        return self.book_in(self.mods, name)

    def read(self, name, text):
        book = self.book(name)
        if not isinstance(text, str):
            raise InvalidText(0)
        if (name, text) not in self.readings:
            self.readings[name, text] = True
            self.computed += 1
        return read(book, text)

    def kept(self):
        return sorted(self.readings)

    def tried(self, *commands, name, text):
        return read(self.book_in(self.behind(commands), name), text)

    def twin(self):
        return copy.deepcopy(self)

    def page(self):
        """The page, straight from the document."""
        left = sorted(self.mods)
        lines = []
        while left:
            name = min(name for name in left if not any(other in left for other in self.mods[name]["uses"]))
            left.remove(name)
            mod = self.mods[name]
            lines.append("module " + name)
            lines += ["use " + other for other in sorted(mod["uses"])]
            lines += ["group " + mod["groups"][group] for group in sorted(mod["groups"])]
            lines += ["operator " + (mod["operators"][text] or "-") + " " + text for text in sorted(mod["operators"])]
            lines += ["tie " + one + " " + other for one, other in sorted(mod["ties"])]
        return "".join(line + "\n" for line in lines)


MODULE_NAMES = ("a", "b", "c", "d", "m", "none")
GROUP_NAMES = ("p", "q", "r", "s", "t", "u")
KINDS = ("infix left", "infix right", "infix none", "prefix many", "prefix once", "postfix many", "postfix once")
SHAPES = ("_ + _", "_ * _", "+ _", "- _", "_ !", "_ - _", "_ ? _ : _", "[ _ ]", "{ _ , _ }", "_ [ _ ]", "if _ then _",
          "_ ? _ ; _", "_ , _")
TEXTS = ("x", "x + y", "x + y * z", "- x", "x !", "[ x ]", "- x + y !", "x ? y : z", "{ x , y }", "x + + y", "(",
         "x  y", "x , y", "")
STRANGE = (None, True, 0, "", "A", "_", "-", (), [], ["a"], ("a",), "a b", "abcdefghi", "zz", "_ +", "p infix",
           [("p", "q")])
WORDS = ("module", "use", "use", "group", "group", "group", "operator", "operator", "operator", "tie", "tie", "drop")


def random_command(chance, library):
    """A command that often can be done with a library, and now and then is wrong."""
    def pick(values, others):
        if chance.random() < 0.03:
            return chance.choice(STRANGE)
        return chance.choice(values if values and chance.random() < 0.9 else others)
    names = library.modules()
    word = chance.choice(WORDS) if names else "module"
    if word == "module":
        return (word, pick([], MODULE_NAMES))
    name = pick(names, MODULE_NAMES)
    if word == "drop":
        return (word, name)
    if word == "use":
        return (word, name, pick(names, MODULE_NAMES))
    if word == "group":
        return (word, name, pick([], [group + " " + kind for group in GROUP_NAMES for kind in KINDS]))
    groups = library.book(name).groups() if isinstance(name, str) and name in names else []
    if word == "tie":
        known = [group.name for group in groups]
        return (word, name, pick(known, GROUP_NAMES), pick(known, GROUP_NAMES))
    group = chance.choice([None, *groups, *groups])
    kind = "closed" if group is None else group.kind
    fitting = [text for text in SHAPES if Shape(text).kind == kind]
    return (word, name, pick(fitting, SHAPES), pick([None if group is None else group.name], GROUP_NAMES + (None,)))
