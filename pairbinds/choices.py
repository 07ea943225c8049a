"""Choices: the trees that parts of a text can have, by the ties that they lack."""


class Lacking:
    """Pairs of names that could be ties, too, as the bits of a number."""

    def __init__(self, ties):
        self._held = {pair: True for pair in ties.pairs()}
        self._bits = {}
        for one in ties.names:
            for other in ties.names:
                # A pair that is a tie in the other direction can never be one.
                if one != other and (one, other) not in self._held and (other, one) not in self._held:
                    self._bits[(one, other)] = 1 << len(self._bits)

    def bit(self, one, other):
        """The bit of a pair, 0 if it is a tie, or None if it can never be one."""
        return 0 if (one, other) in self._held else self._bits.get((one, other))

    def pairs(self, bits):
        """The ascending list of the pairs of some bits."""
        return [pair for pair in self._bits if self._bits[pair] & bits]


def _keep_least(trees, key, tree):
    """Put a tree under a key of a dict, unless a tree that is less stands there."""
    if key not in trees or tree < trees[key]:
        trees[key] = tree


class Choices:
    """For the parts of a row, the least tree for each group and each number of lacking bits."""

    def __init__(self, row, lacking):
        self._row = row
        self._lacking = lacking
        self._within = [[Choices(inner, lacking).of_row() for inner in rows] for rows in row.within()]
        self._parts = {}

    def of_row(self):
        """The dict of the least trees of the whole row by the pairs of a group, or None, and a number of bits."""
        many = len(self._within)
        for end in range(1, many + 1):
            for start in range(end - 1, -1, -1):
                self._parts[(start, end)] = self._of_part(start, end)
        return self._parts[(0, many)]

    def _of_part(self, start, end):
        """The dict of the least trees of a part, which needs those of the shorter parts."""
        trees = {}
        for at, form in self._row.roots(start, end):
            begun = {0: form.begun}
            if start < at:
                begun = self._joined(begun, self._parts[(start, at)], form.before, form.group)
            for inner in self._within[at]:
                begun = self._joined(begun, inner, None, None)
            if at + 1 < end:
                begun = self._joined(begun, self._parts[(at + 1, end)], form.behind, form.group)
            for bits in begun:
                _keep_least(trees, (form.group, bits), begun[bits])
        return trees

    def _joined(self, begun, trees, groups, around):
        """Trees that have begun, by their bits, with one more tree each.

        In an outer hole it is of one of some groups, and another group is around it; elsewhere both are None.
        """
        joined = {}
        for group, bits in trees:
            if groups is not None and group not in groups:
                continue
            is_rival = around is not None and group is not None and group != around
            bit = self._lacking.bit(group, around) if is_rival else 0
            for held in begun:
                if bit is not None:
                    _keep_least(joined, held | bits | bit, begun[held] + (trees[(group, bits)],))
        return joined
