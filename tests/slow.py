"""Readings told straight from the points of the document, slowly and without the package, to compare with."""

import functools
import itertools

LETTERS = "abcdefghijklmnopqrstuvwxyz"
SHAPES_OF = {"infix": "_ {} _", "prefix": "{} _", "postfix": "_ {}"}
SIDES_OF = {"infix": ("left", "right", "none"), "prefix": ("many", "once"), "postfix": ("many", "once")}


def closed(pairs):
    """The closure of pairs, by adding what follows until nothing does."""
    held = set(pairs)
    while True:
        more = {(a, d) for a, b in held for c, d in held if b == c} - held
        if not more:
            return held
        held |= more


class SlowBook:
    """Groups as a dict of (kind, side), operators as a dict of names of groups, ties as a set of pairs."""

    def __init__(self, groups, operators, ties):
        self.groups = dict(groups)
        self.operators = dict(operators)
        self.ties = closed(ties)
        self.words = {word for shape in self.operators for word in shape.split(" ") if word != "_"}

    def is_operand(self, word):
        return 1 <= len(word) <= 8 and all(letter in LETTERS for letter in word) and word not in self.words

    def may_stand(self, head, around, hole):
        """Whether a tree with a first item may stand in the hole of a tree with a first item."""
        if head in ("word", "round") or around == "round":
            return True
        parts = around.split(" ")
        holes = parts.count("_")
        first, last = parts[0] == "_" and hole == 0, parts[-1] == "_" and hole == holes - 1
        one, other = self.operators[head], self.operators[around]
        if one is None or not (first or last):
            return True
        if one == other:
            side = self.groups[one][1]
            return side == "many" or side == "left" and first or side == "right" and last
        return (one, other) in self.ties

    def heads(self):
        return ["word", "round", *self.operators]

    def rows_of(self, head):
        """The words and holes of all trees but operands with a first item; a hole is its index."""
        indexes = itertools.count()
        text = "( _ )" if head == "round" else head
        return [next(indexes) if part == "_" else part for part in text.split(" ")]


class SlowText:
    """The readings of a text, and whether it is the beginning of a text with a reading."""

    def __init__(self, book, words):
        self.book = book
        self.many_of = functools.lru_cache(None)(self._many_of)
        self.many_from = functools.lru_cache(None)(self._many_from)
        self.words = words

    def _many_of(self, start, end, head):
        if start >= end:
            return 0
        if head == "word":
            return int(end - start == 1 and self.book.is_operand(self.words[start]))
        return self.many_from(start, end, head, 0)

    def _many_from(self, start, end, head, at):
        """In how many ways some words are the rest of a tree from a word or hole on."""
        row = self.book.rows_of(head)
        if at == len(row):
            return int(start == end)
        if start >= end:
            return 0
        if isinstance(row[at], str):
            return self.many_from(start + 1, end, head, at + 1) if self.words[start] == row[at] else 0
        many = 0
        for middle in range(start + 1, end - (len(row) - at - 1) + 1):
            rest = self.many_from(middle, end, head, at + 1)
            if rest:
                many += rest * sum(self.many_of(start, middle, child) for child in self.book.heads()
                                   if self.book.may_stand(child, head, row[at]))
        return many

    def how_many(self):
        return sum(self.many_of(0, len(self.words), head) for head in self.book.heads())

    def can_begin(self):
        """Whether any text with a reading begins with the words."""
        self.begins = {len(self.words): set(self.book.heads())}
        for start in reversed(range(len(self.words))):
            self.begins[start] = set()
            while True:
                more = {head for head in self.book.heads() if self._begins(start, head)}
                if more == self.begins[start]:
                    break
                self.begins[start] = more
        return bool(self.begins[0])

    def _begins(self, start, head):
        """Whether the words from an index on begin the text of a tree with a first item."""
        if head == "word":
            return start == len(self.words) - 1 and self.book.is_operand(self.words[start])
        return self._begins_from(start, head, 0)

    def _begins_from(self, start, head, at):
        row = self.book.rows_of(head)
        if start == len(self.words):
            return True
        if at == len(row):
            return False
        if isinstance(row[at], str):
            return self.words[start] == row[at] and self._begins_from(start + 1, head, at + 1)
        children = [child for child in self.book.heads() if self.book.may_stand(child, head, row[at])]
        if any(child in self.begins[start] for child in children):
            return True
        return any(self._begins_from(middle, head, at + 1)
                   for middle in range(start + 1, len(self.words) + 1)
                   if any(self.many_of(start, middle, child) for child in children))


def how_many(book, words):
    return SlowText(book, words).how_many()


def stuck(book, words):
    """The index at which the words are stuck, or None."""
    if how_many(book, words):
        return None
    for at in range(len(words)):
        if not SlowText(book, words[:at + 1]).can_begin():
            return at
    return len(words)


def all_trees(book, words):
    """All readings, by looking at each tree with the text."""
    found = []
    if len(words) == 1 and book.is_operand(words[0]):
        found.append(("word", words[0]))
    for head in book.heads()[1:]:
        for trees in all_rows(book, words, head, book.rows_of(head)):
            found.append((head, *trees))
    return found


def all_rows(book, words, head, row):
    """The tuples of trees that, in the holes of a row of words and holes, have these words as text."""
    if not row or not words:
        return [()] if not row and not words else []
    if isinstance(row[0], str):
        return all_rows(book, words[1:], head, row[1:]) if words[0] == row[0] else []
    found = []
    for many in range(1, len(words) - len(row) + 2):
        rests = all_rows(book, words[many:], head, row[1:])
        if rests:
            trees = [tree for tree in all_trees(book, words[:many]) if book.may_stand(tree[0], head, row[0])]
            found.extend((tree, *rest) for tree in trees for rest in rests)
    return found


def random_book(chance, most_groups=5, most_operators=7, words="+*-!?:[],"):
    """Groups, operators and ties for a book, by a source of random numbers."""
    groups = {}
    for name in "abcdefghijkl"[:chance.randint(1, most_groups)]:
        kind = chance.choice(["infix", "infix", "prefix", "postfix"])
        groups[name] = (kind, chance.choice(SIDES_OF[kind]))
    operators = {}
    plain = {}
    left = list(words)
    chance.shuffle(left)
    for _ in range(chance.randint(1, most_operators)):
        name = chance.choice([None, *groups, *groups, *groups])
        if name is not None and (chance.random() < 0.7 or len(left) < 2):
            kind = groups[name][0]
            known = [word for word, kinds in plain.items() if kind not in kinds]
            if known and (chance.random() < 0.6 or not left):
                word = chance.choice(known)
            elif left:
                word = left.pop()
            else:
                continue
            plain.setdefault(word, set()).add(kind)
            operators[SHAPES_OF[kind].format(word)] = name
        elif len(left) >= 2:
            kind = "closed" if name is None else groups[name][0]
            own = [left.pop() for _ in range(chance.randint(2, min(4, len(left))))]
            text = " _ ".join(own)
            before, behind = kind in ("infix", "postfix"), kind in ("infix", "prefix")
            operators["_ " * before + text + " _" * behind] = name
    order = list(groups)
    chance.shuffle(order)
    ties = [pair for pair in itertools.combinations(order, 2) if chance.random() < 0.5]
    return groups, operators, ties
