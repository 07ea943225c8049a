"""Ties: which groups bind tighter than which other ones."""

from pairbinds.counts import is_number
from pairbinds.errors import DuplicateName, InvalidName, InvalidNumber, Ring, TooMany, UnknownName, Unlike
from pairbinds.shapes import is_name

MOST_NAMES = 12


def _check_names(names):
    """Raise an error unless these are few enough different names."""
    if len(names) > MOST_NAMES:
        raise TooMany("names", MOST_NAMES)
    for name in names:
        if not is_name(name):
            raise InvalidName(name)
    for at, name in enumerate(names):
        if name in names[:at]:
            raise DuplicateName(name)


def _check_pairs(names, pairs):
    """Raise an error unless the pairs are of these names."""
    for pair in pairs:
        for name in pair:
            if name not in names:
                raise UnknownName(name)


def _closed(names, pairs):
    """The closure of the pairs, as a dict with the pairs as keys."""
    held = {(one, other): True for one, other in pairs}
    for middle in names:
        above = [name for name in names if (name, middle) in held]
        below = [name for name in names if (middle, name) in held]
        for one in above:
            for other in below:
                held[(one, other)] = True
    return held


def _way_back(name, pairs):
    """The names of a shortest way by the pairs from a name back to itself, or None."""
    ways = [(name,)]
    reached = {}
    while ways:
        way = ways.pop(0)
        for one, other in pairs:
            if one == way[-1] and other == name:
                return way
            if one == way[-1] and other not in reached:
                reached[other] = True
                ways.append(way + (other,))
    return None


class Ties:
    """The closure of some pairs of names of groups, in which the first one binds tighter."""

    def __init__(self, names, pairs=()):
        _check_names(names)
        _check_pairs(names, pairs)
        ordered = sorted(names)
        held = _closed(ordered, pairs)
        for name in ordered:
            if (name, name) in held:
                raise Ring(_way_back(name, sorted([(one, other) for one, other in pairs])))
        self.names = tuple(ordered)
        self._held = {pair: True for pair in sorted(list(held))}

    def pairs(self):
        """The ascending list of all ties."""
        return list(self._held)

    def needed(self):
        """The ascending list of the fewest pairs that have the same closure."""
        return [(one, other) for one, other in self._held if not self._follows(one, other)]

    def _follows(self, one, other):
        """Whether a tie follows from two others."""
        return any([(one, name) in self._held and (name, other) in self._held for name in self.names])

    def with_ties(self, *pairs):
        """The ties with more pairs."""
        # The needed pairs stand in all pairs with this closure, so a ring of them has been stated.
        return Ties(self.names, self.needed() + list(pairs))

    def above(self, name):
        """The ascending list of the names that bind tighter than a name."""
        self._check_known(name)
        return [one for one in self.names if (one, name) in self._held]

    def below(self, name):
        """The ascending list of the names that bind less tight than a name."""
        self._check_known(name)
        return [other for other in self.names if (name, other) in self._held]

    def _check_known(self, name):
        if name not in self.names:
            raise UnknownName(name)

    def levels(self):
        """The list of the ascending lists of names that have their names above in the lists ahead."""
        found = []
        left = list(self.names)
        while left:
            level = self._tightest_of(left)
            found.append(level)
            left = [name for name in left if name not in level]
        return found

    def _tightest_of(self, names):
        """The names that have none of these names above them."""
        return [name for name in names if not any([(one, name) in self._held for one in names])]

    def orders(self, *, most=24):
        """The tuples of all names in which each stands ahead of those below it, ascending."""
        if not is_number(most) or most < 0:
            raise InvalidNumber(most)
        begun = [()]
        told = 0
        while begun and told < most:
            order = begun.pop()
            left = [name for name in self.names if name not in order]
            if len(left) == 0:
                told += 1
                yield order
            # The last one that is put here is looked at first.
            for name in self._tightest_of(left)[::-1]:
                begun.append(order + (name,))

    def _check_like(self, other):
        if self.names != other.names:
            raise Unlike()

    def is_within(self, other):
        """Whether all ties are ties of other ones."""
        self._check_like(other)
        return all([pair in other for pair in self._held])

    def __or__(self, other):
        self._check_like(other)
        return Ties(self.names, self.needed() + other.needed())

    def __and__(self, other):
        self._check_like(other)
        return Ties(self.names, [pair for pair in self._held if pair in other])

    def __neg__(self):
        return Ties(self.names, [(other, one) for one, other in self._held])

    def __eq__(self, other):
        return isinstance(other, Ties) and self.names == other.names and self._held == other._held

    def __contains__(self, pair):
        # A list of the ties can be asked for values of all kinds, a dict of them cannot.
        return pair in list(self._held)

    def __len__(self):
        return len(self._held)

    def __repr__(self):
        return f"Ties({len(self.names)} names, {len(self._held)} ties)"
