"""Rows: the items that stand between two words of a shape, between brackets, or in a whole text."""


class Item:
    """A word, or all that stands from the first word of a shape or bracket to its last one."""

    def __init__(self, forms):
        self.forms = forms
        # The rows in the inner holes.
        self.rows = []


def _places(start, end):
    """The pairs (index, kind) for each item that could be the root of a part of a row."""
    if end - start == 1:
        return [(start, "closed")]
    inner = [(at, "infix") for at in range(start + 1, end - 1)]
    return [(start, "prefix"), (end - 1, "postfix")] + inner


class Row:
    """Some items, with the number of the trees for each part of them."""

    def __init__(self):
        self._items = []
        # For each end of a part and each start of it, the numbers of its trees by their groups.
        self._columns = []
        # In how many ways the rows within the items can be read.
        self.times = 1

    def put(self, item):
        """Add an item at the end."""
        self._items.append(item)
        end = len(self._items)
        column = [{} for _ in range(end)]
        self._columns.append(column)
        # A part needs the numbers of the shorter parts with its end.
        for start in range(end - 1, -1, -1):
            column[start] = self._numbers(start, end)

    def take_back(self):
        """Remove the last item."""
        self._items.pop()
        self._columns.pop()

    def within(self):
        """For each item, the list of the rows in its inner holes."""
        return [list(item.rows) for item in self._items]

    def roots(self, start, end):
        """The pairs (index, form) that a part can have as the root of a tree."""
        places = [(at, kind) for at, kind in _places(start, end) if kind in self._items[at].forms]
        return [(at, self._items[at].forms[kind]) for at, kind in places]

    def _numbers(self, start, end):
        """The numbers of the trees of a part by their groups, without the rows within the items."""
        numbers = {}
        for at, form in self.roots(start, end):
            ways = self._ways_with(at, form, start, end)
            if ways > 0:
                numbers[form.group] = numbers.get(form.group, 0) + ways
        return numbers

    def _ways_with(self, at, form, start, end):
        """The number of the trees of a part with this root."""
        before = self._ways_of(start, at, form.before) if start < at else 1
        behind = self._ways_of(at + 1, end, form.behind) if at + 1 < end else 1
        return before * behind

    def _ways_of(self, start, end, groups):
        """The number of the trees of a part that are of some groups."""
        numbers = self._columns[end - 1][start]
        return sum([numbers[group] for group in numbers if group in groups])

    def _own_ways(self):
        """The number of the trees of the whole row, without the rows within the items."""
        return sum(list(self._columns[-1][0].values())) if self._columns else 0

    def ways(self):
        """The number of the trees of the whole row."""
        return self._own_ways() * self.times

    def can_go_on(self, operand):
        """Whether the items are the beginning of a row with a tree."""
        if self._own_ways() > 0:
            return True
        # If anything can follow that makes the row whole, an operand can.
        self.put(operand)
        found = self._own_ways() > 0
        self.take_back()
        return found

    def trees(self, most):
        """The list of at most so many of the trees of the whole row, which has some."""
        return self._trees_of(0, len(self._items), self._columns[-1][0], most)

    def _trees_of(self, start, end, groups, most):
        """At most so many of the trees of a part that are of some groups."""
        trees = []
        for at, form in self.roots(start, end):
            if form.group in groups and len(trees) < most and self._ways_with(at, form, start, end) > 0:
                trees.extend(self._trees_with(at, form, start, end, most - len(trees)))
        return trees

    def _trees_with(self, at, form, start, end, most):
        """At most so many of the trees of a part with this root."""
        holes = []
        if start < at:
            holes.append(self._trees_of(start, at, form.before, most))
        for row in self._items[at].rows:
            holes.append(row.trees(most))
        if at + 1 < end:
            holes.append(self._trees_of(at + 1, end, form.behind, most))
        trees = [form.begun]
        for found in holes:
            trees = [begun + (tree,) for begun in trees for tree in found][:most]
        return trees
