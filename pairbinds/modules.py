"""Modules of a library: what each one says itself, and all of them on a shelf, with their books."""

from pairbinds.books import Book
from pairbinds.errors import UnknownName


class Module:
    """What one module says itself, and the names of the modules that it uses, all ascending; it never changes."""

    def __init__(self, own_groups=(), own_operators=(), own_ties=(), used=()):
        self.own_groups = own_groups
        self.own_operators = own_operators
        self.own_ties = own_ties
        self.used = used

    def with_use(self, name):
        """The module that also uses another one."""
        used = self.used if name in self.used else tuple(sorted([*self.used, name]))
        return Module(self.own_groups, self.own_operators, self.own_ties, used)

    def with_group(self, group):
        """The module with one more group."""
        own_groups = tuple(sorted([*self.own_groups, group], key=lambda row: row.name))
        return Module(own_groups, self.own_operators, self.own_ties, self.used)

    def with_operator(self, text, name):
        """The module with one more operator, by the text of its shape and the name of its group."""
        own_operators = tuple(sorted([*self.own_operators, (text, name)]))
        return Module(self.own_groups, own_operators, self.own_ties, self.used)

    def with_tie(self, one, other):
        """The module that also says a tie."""
        pair = (one, other)
        own_ties = self.own_ties if pair in self.own_ties else tuple(sorted([*self.own_ties, pair]))
        return Module(self.own_groups, self.own_operators, own_ties, self.used)

    def __eq__(self, other):
        return (isinstance(other, Module) and self.own_groups == other.own_groups
                and self.own_operators == other.own_operators and self.own_ties == other.own_ties
                and self.used == other.used)


class Shelf:
    """The modules of a library at one time, by their names, with the books that are made."""

    def __init__(self):
        self._modules = {}
        self._books = {}

    def copied(self):
        """An independent shelf with the same modules and books."""
        shelf = Shelf()
        shelf._modules = dict(self._modules)
        shelf._books = dict(self._books)
        return shelf

    def module_names(self):
        """The ascending list of the names of the modules."""
        return sorted(list(self._modules))

    def has(self, value):
        """Whether a value is the name of a module."""
        return isinstance(value, str) and value in self._modules

    def check_known(self, value):
        """Raise an error unless a value is the name of a module."""
        if not self.has(value):
            raise UnknownName(value)

    def module(self, name):
        """The module with a name."""
        self.check_known(name)
        return self._modules[name]

    def modules(self):
        """The list of all modules."""
        return list(self._modules.values())

    def reach(self, name):
        """The ascending list of the names of a module and of all that it uses, directly or not."""
        reached = {}
        left = [name]
        while left:
            one = left.pop()
            if one not in reached:
                reached[one] = True
                left.extend(self._modules[one].used)
        return sorted(list(reached))

    def groups_for(self, name):
        """The list of the groups of the book of a module, ascending by name."""
        groups = []
        for one in self.reach(name):
            groups.extend(self._modules[one].own_groups)
        return sorted(groups, key=lambda row: row.name)

    def users(self, name):
        """The ascending list of the names of the modules that use a module directly."""
        return [other for other in self.module_names() if name in self._modules[other].used]

    def put(self, name, module):
        """Put in a module under a name."""
        self._modules[name] = module
        self._books = {other: self._books[other] for other in self._books if name not in self.reach(other)}

    def take_out(self, name):
        """Remove a module that no other one uses."""
        del self._modules[name]
        self._books = {other: self._books[other] for other in self._books if other != name}

    def make_books(self):
        """Make the books that are not made; raises the error of the first one that cannot be made."""
        for name in self.module_names():
            if name not in self._books:
                self._books[name] = self._new_book(name)

    def _new_book(self, name):
        """A new book of a module; raises an error if it cannot be made."""
        operators = []
        ties = []
        for one in self.reach(name):
            operators.extend(self._modules[one].own_operators)
            ties.extend(self._modules[one].own_ties)
        return Book(self.groups_for(name), sorted(operators), sorted(ties))

    def book(self, name):
        """The book of a module."""
        self.check_known(name)
        return self._books[name]

    def same_books(self, other):
        """The list of the names of the modules that have equal books here and on another shelf."""
        return [name for name in self.module_names() if other.has(name) and self.book(name) == other.book(name)]

    def __eq__(self, other):
        return isinstance(other, Shelf) and self._modules == other._modules
