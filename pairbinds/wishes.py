"""Wishes about a book: ties that are said, trees that must fit, and trees that must not."""

from pairbinds.books import Book
from pairbinds.counts import is_number
from pairbinds.errors import InvalidNumber, Unfit, UnknownName
from pairbinds.links import find_chain, find_ring, is_chain
from pairbinds.ties import Ties

SAID = "said"
SHOWN = "shown"
BARRED = "barred"


class Answer:
    """What can be told of wishes."""

    def told(self):
        """What the answer is, as a text."""
        return "open"

    def holds(self, wishes):
        """Whether this is an answer to some wishes."""
        return False

    def __repr__(self):
        return f"Answer({self.told()})"


class Settled(Answer):
    """The least ties, if all wishes can be had."""

    def __init__(self, ties):
        self._ties = ties

    @property
    def ties(self):
        """The least ties."""
        return self._ties

    def told(self):
        """What the answer is, as a text."""
        return "settled"

    def holds(self, wishes):
        """Whether this is an answer to some wishes."""
        answer = wishes.answer()
        return isinstance(answer, Settled) and self._ties == answer.ties

    def __repr__(self):
        return f"Answer({self.told()})"


class Ringed(Answer):
    """A chain from a name to itself."""

    def __init__(self, chain):
        self._chain = list(chain)

    def chain(self):
        """The list of the links."""
        return list(self._chain)

    def told(self):
        """What the answer is, as a text."""
        return "ringed"

    def holds(self, wishes):
        """Whether this is an answer to some wishes."""
        if len(self._chain) == 0:
            return False
        name = self._chain[0][0]
        return is_chain(wishes.links(), self._chain, name, name)

    def __repr__(self):
        return f"Answer({self.told()})"


class Broken(Answer):
    """The number of a barred tree that fits, with a chain for each of its needs."""

    def __init__(self, number, chains):
        self._number = number
        self._chains = [list(chain) for chain in chains]

    @property
    def number(self):
        """The number of the barred tree."""
        return self._number

    def chains(self):
        """The list of the lists of links, in the order of the needs."""
        return [list(chain) for chain in self._chains]

    def told(self):
        """What the answer is, as a text."""
        return f"broken {self._number}"

    def holds(self, wishes):
        """Whether this is an answer to some wishes."""
        needs = wishes.needs_of_barred(self._number)
        if needs is None or len(needs) != len(self._chains) or isinstance(wishes.answer(), Ringed):
            return False
        links = wishes.links()
        return all([is_chain(links, chain, one, other) for chain, (one, other) in zip(self._chains, needs)])

    def __repr__(self):
        return f"Answer({self.told()})"


class Wishes:
    """Numbered wishes about the ties that a book should have."""

    def __init__(self, book):
        self._book = book
        # By the numbers, a word, the pair or tree, and the needs, which are None for a tree that cannot fit.
        self._rows = {}
        self._next = 1

    def _add(self, word, thing, needs):
        """Take in a wish and return its number."""
        number = self._next
        self._rows[number] = (word, thing, needs)
        self._next += 1
        return number

    def _check_names(self, names):
        for name in names:
            if name not in self._book.ties.names:
                raise UnknownName(name)

    def said(self, one, other):
        """Wish that one group binds tighter than another one; returns the number of the wish."""
        self._check_names((one, other))
        return self._add(SAID, (one, other), [(one, other)])

    def shown(self, tree):
        """Wish that a tree fits; returns the number of the wish."""
        return self._add(SHOWN, tree, self._book.needs(tree))

    def barred(self, tree):
        """Wish that a tree does not fit; returns the number of the wish."""
        try:
            needs = self._book.needs(tree)
        except Unfit:
            needs = None
        return self._add(BARRED, tree, needs)

    def drop(self, number):
        """Take the wish with a number away."""
        if not is_number(number) or number not in self._rows:
            raise InvalidNumber(number)
        del self._rows[number]

    def wishes(self):
        """The ascending list of the tuples of a number, a word, and the pair or tree."""
        return [(number, word, thing) for number, (word, thing, _) in self._rows.items()]

    def links(self):
        """The list of the links, in the order of their numbers."""
        links = []
        for number, (word, _, needs) in self._rows.items():
            if word != BARRED:
                links.extend([(one, other, number) for one, other in needs])
        return links

    def needs_of_barred(self, number):
        """The needs of the barred tree with a number; None if there is none, or one that cannot fit."""
        word, _, needs = self._rows.get(number, (SAID, None, None))
        return list(needs) if word == BARRED and needs is not None else None

    def answer(self):
        """A Settled, a Ringed or a Broken that is an answer to the wishes."""
        links = self.links()
        ring = find_ring(links, self._book.ties.names)
        if ring is not None:
            return Ringed(ring)
        least = Ties(self._book.ties.names, [(one, other) for one, other, _ in links])
        for number in self._rows:
            needs = self.needs_of_barred(number)
            if needs is not None and all([pair in least for pair in needs]):
                return Broken(number, [find_chain(links, one, other) for one, other in needs])
        return Settled(least)

    def chain(self, one, other):
        """A chain from one name to another, or None."""
        self._check_names((one, other))
        return find_chain(self.links(), one, other)

    def book(self):
        """The book with the least ties in the place of its own."""
        pairs = [(one, other) for one, other, _ in self.links()]
        return Book(self._book.groups(), self._book.operators(), pairs)

    def twin(self):
        """Independent wishes with the same content, which give the same next number."""
        other = Wishes(self._book)
        other._rows = dict(self._rows)
        other._next = self._next
        return other

    def __len__(self):
        return len(self._rows)

    def __repr__(self):
        return f"Wishes({len(self._rows)} wishes)"
