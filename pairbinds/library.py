"""Libraries: modules with groups, operators and ties, with history and kept readings."""

from pairbinds.commands import check_commands, do_command
from pairbinds.counts import is_number
from pairbinds.errors import InvalidLimit, InvalidText, NothingLeft
from pairbinds.modules import Shelf
from pairbinds.outcomes import outcome_of


class Library:
    """Modules by their names, the steps that changed them, and the readings of texts in them."""

    MOST = 12

    def __init__(self, *, limit=8):
        # No shelf changes once it stands in one of these places.
        self._shelf = Shelf()
        self._past = []
        self._future = []
        self._kept = {}
        self._computed = 0
        self._busy = False
        self.limit = limit

    @property
    def limit(self):
        """How many modules there may be."""
        return self._limit

    @limit.setter
    def limit(self, value):
        if not is_number(value) or value < 1 or value > self.MOST or value < len(self._shelf.module_names()):
            raise InvalidLimit(value)
        self._limit = value

    def set_limit(self, value):
        """Set how many modules there may be."""
        self.limit = value

    def _shelf_behind(self, commands):
        """The shelf as it is when some commands have been done."""
        check_commands(commands)
        shelf = self._shelf.copied()
        self._busy = True
        try:
            for command in commands:
                do_command(shelf, self._limit, command)
            shelf.make_books()
        finally:
            self._busy = False
        return shelf

    def _put_up(self, shelf):
        """Put another shelf in the place of the present one."""
        same = self._shelf.same_books(shelf)
        self._kept = {(name, text): self._kept[(name, text)] for name, text in self._kept if name in same}
        self._shelf = shelf

    def apply(self, *commands):
        """Do all commands as one step, or none."""
        shelf = self._shelf_behind(commands)
        self._past.append(self._shelf)
        self._future = []
        self._put_up(shelf)

    def undo(self):
        """Take the last step back."""
        if len(self._past) == 0:
            raise NothingLeft()
        self._future.append(self._shelf)
        self._put_up(self._past.pop())

    def redo(self):
        """Do the step again that was taken back last."""
        if len(self._future) == 0:
            raise NothingLeft()
        self._past.append(self._shelf)
        self._put_up(self._future.pop())

    def history(self):
        """The pair of the numbers of steps that can be undone and redone."""
        return (len(self._past), len(self._future))

    def forget_steps(self):
        """Let no step be undone or redone."""
        self._past = []
        self._future = []

    @property
    def busy(self):
        """Whether commands are being done."""
        return self._busy

    def modules(self):
        """The ascending list of the names of the modules."""
        return self._shelf.module_names()

    def uses(self, name):
        """The ascending list of the modules that a module uses directly."""
        return list(self._shelf.module(name).used)

    def said(self, name):
        """The ascending list of the ties that a module says itself."""
        return list(self._shelf.module(name).own_ties)

    def book(self, name):
        """The book of a module."""
        return self._shelf.book(name)

    def read(self, name, text):
        """The reading of a text in the book of a module, which is kept."""
        book = self._shelf.book(name)
        if not isinstance(text, str):
            raise InvalidText(0)
        if (name, text) not in self._kept:
            self._kept[(name, text)] = outcome_of(book, text)
            self._computed += 1
        return self._kept[(name, text)].tree()

    def kept(self):
        """The ascending list of the pairs of a module and a text that are kept."""
        return sorted(list(self._kept))

    @property
    def computed(self):
        """How many readings were computed."""
        return self._computed

    def tried(self, *commands, name, text):
        """The reading that a text would have behind some commands, which are not done."""
        return outcome_of(self._shelf_behind(commands).book(name), text).tree()

    def twin(self):
        """An independent library with the same content."""
        other = Library()
        other._shelf = self._shelf
        other._past = list(self._past)
        other._future = list(self._future)
        other._kept = {(name, text): self._kept[(name, text)] for name, text in self._kept}
        other._computed = self._computed
        other._limit = self._limit
        return other

    def __contains__(self, name):
        return self._shelf.has(name)

    def __len__(self):
        return len(self._shelf.module_names())

    def __eq__(self, other):
        return isinstance(other, Library) and self._shelf == other._shelf

    def __repr__(self):
        return f"Library({len(self._shelf.module_names())} modules)"
