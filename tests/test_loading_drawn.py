"""Made-up pages with faults: all faults of [9] are gathered, and the first one by rows and columns is that of load."""

import random
import unittest

from sendstead.books import Book
from sendstead.errors import Fault, Many
from sendstead.pages import Page
from sendstead.signs import words_of
from tests.made_programs import Maker
from tests.made_up import words_of_tree

KIND_WORDS = ("Aa", "Bb", "Cc", "Ee", "Ee", "Ff", "Gg", "Thing", "Zz")
SMALL_WORDS = ("p", "q", "x", "y", "e", "b", "f", "g", "h", "k", "go", "to", "on", "at", "zz")


class Gatherer:
    """Gathers all faults of a page for a book, each as (row, column, number in the order told, why)."""

    def __init__(self, book, page):
        self.book, self.page = book, page
        self.places = [(row, column) for _, row, column in words_of(page.text)]
        self.faults = []
        self.parents = {kind: book.parent(kind) for kind in book.kinds()}
        self.own = {kind: book.own(kind) for kind in book.kinds()}
        for tree in page.trees:
            if tree[0] == "kind" and tree[1] not in (*self.parents, "Thing"):
                self.parents[tree[1]], self.own[tree[1]] = tree[2], tree[3]

    def fault(self, wrong, at, order, why):
        if wrong:
            self.faults.append((*self.places[at], order, why))

    def line(self, kind):
        line = []
        while kind in self.parents and kind not in line:
            line.append(kind)
            kind = self.parents[kind]
        return line, kind in line

    def above(self, kind):
        return [word for other in self.line(kind)[0] for word in self.own[other]]

    def gather(self):
        at = 0
        heads = {kind: set(self.book.messages(kind)) for kind in self.book.kinds()}
        ahead = set(self.book.kinds())
        for tree in self.page.trees:
            kind, methods = tree[1], tree[-1]
            if tree[0] == "kind":
                self.fault(kind in ahead or kind == "Thing", at + 1, 0, "twice")
                self.fault(len(ahead) >= 8, at + 1, 1, "many")
                ahead.add(kind)
                self.fault(tree[2] not in (*self.parents, "Thing"), at + 3, 0, "kind")
                self.fault(self.line(kind)[1], at + 3, 1, "ring")
                for number, word in enumerate(tree[3]):
                    here = at + 5 + 2 * number
                    above = self.above(tree[2])
                    self.fault(word in tree[3][:number], here, 0, "twice")
                    self.fault(word in above, here, 1, "clash")
                    self.fault(number >= 4 or len(above) + number >= 8, here, 2, "many")
                here = at + 4 + 2 * len(tree[3])
            else:
                self.fault(kind not in self.parents, at + 1, 0, "kind")
                here = at + 2
            messages = []
            for method in methods:
                mine = heads.setdefault(kind, set())
                self.fault(method[1] in messages, here + 1, 0, "twice")
                self.fault(method[1] not in mine and len(mine) >= 8, here + 1, 1, "many")
                messages.append(method[1])
                mine.add(method[1])
                self.method(here, kind, method)
                here += len(words_of_tree(method))
            at += len(words_of_tree(tree))
        return sorted(self.faults)

    def method(self, at, kind, method):
        _, _, parameters, statements = method
        names, nodes = list(parameters), [0]
        self.collect(statements, (), names, nodes)
        self.fault(nodes[0] > 150, at, 0, "many")
        self.row(at + 2, parameters)
        self.walk(at + 3 + len(parameters), statements, (), names, kind)

    def row(self, at, words):
        for number, word in enumerate(words):
            self.fault(word in words[:number], at + number, 0, "twice")
            self.fault(number >= 4, at + number, 1, "many")

    def collect(self, trees, hidden, names, nodes):
        """The method's names, by nodes, and how many nodes there are."""
        for tree in trees:
            nodes[0] += 1
            word = {"set": tree[1], "try": tree[2] if tree[0] == "try" else None}.get(tree[0]) if len(tree) > 1 else None
            if word is not None and word not in names and word not in hidden:
                names.append(word)
            inner = hidden + tree[1] if tree[0] == "block" else hidden
            for part in tree[1:]:
                if isinstance(part, tuple) and part and isinstance(part[0], tuple):
                    self.collect(part, inner, names, nodes)
                elif isinstance(part, tuple) and part and tree[0] != "block":
                    self.collect((part,), inner, names, nodes)

    def walk(self, at, trees, hidden, names, kind):
        """Go over nodes whose words begin at a number."""
        for tree in trees:
            self.node(at, tree, hidden, names, kind)
            at += len(words_of_tree(tree))

    def node(self, at, tree, hidden, names, kind):
        sort = tree[0]
        if sort in ("set", "setfield"):
            if sort == "set":
                self.set_word(at, tree[1], hidden, names)
            else:
                self.fault(tree[1] not in self.above(kind), at, 0, "field")
            self.walk(at + 2, tree[2:], hidden, names, kind)
        elif sort in ("do", "say", "return", "raise"):
            self.walk(at + 1, tree[1:], hidden, names, kind)
        elif sort in ("if", "while"):
            self.walk(at + 1, tree[1:2], hidden, names, kind)
            here = at + 2 + len(words_of_tree(tree[1]))
            for part in tree[2:]:
                self.walk(here, part, hidden, names, kind)
                here += 1 + sum(len(words_of_tree(inner)) for inner in part)
        elif sort == "try":
            self.walk(at + 1, tree[1], hidden, names, kind)
            here = at + 2 + sum(len(words_of_tree(inner)) for inner in tree[1])
            self.set_word(here, tree[2], hidden, names)
            self.walk(here + 1, tree[3], hidden, names, kind)
        elif sort == "name":
            self.fault(tree[1] not in hidden and tree[1] not in names, at, 0, "name")
        elif sort == "field":
            self.fault(tree[1] not in self.above(kind), at, 0, "field")
        elif sort == "new":
            self.fault(tree[1] not in (*self.parents, "Thing"), at + 1, 0, "kind")
        elif sort == "send":
            self.walk(at + 1, tree[1:2], hidden, names, kind)
            self.walk(at + 2 + len(words_of_tree(tree[1])), tree[3], hidden, names, kind)
        elif sort in ("up", "list"):
            self.walk(at + (3 if sort == "up" else 1), tree[-1], hidden, names, kind)
        elif sort == "block":
            self.row(at + 1, tree[1])
            self.walk(at + 2 + len(tree[1]), tree[2], hidden + tree[1], names, kind)

    def set_word(self, at, word, hidden, names):
        self.fault(word not in hidden and names.index(word) >= 12, at, 0, "many")


def changed_text(chance, text):
    """The text with some of its words changed, or with rows twice or left out."""
    rows = text.split("\n")
    for _ in range(chance.choice((0, 1, 1, 2, 3, 8))):
        at = chance.randrange(len(rows))
        heads = [number for number, row in enumerate(rows) if row.startswith(("kind", "field", "more"))]
        if heads and chance.random() < 0.4:
            at = chance.choice(heads)
        words = rows[at].split(" ")
        number = chance.randrange(len(words))
        word = words[number]
        if word[:1].isupper():
            words[number] = chance.choice(KIND_WORDS)
        elif word[:1] == "@":
            words[number] = "@" + chance.choice(SMALL_WORDS)
        elif word in SMALL_WORDS:
            words[number] = chance.choice(SMALL_WORDS)
        rows[at] = " ".join(words)
        if rows[at].startswith("field") and chance.random() < 0.5:
            rows[at:at] = ["field " + chance.choice("fghkmn") for _ in range(chance.choice((1, 1, 5)))]
        if rows[at].endswith(":") and chance.random() < 0.5:
            rows[at] = rows[at][:-1] + " ".join(chance.choice(SMALL_WORDS) for _ in range(chance.choice((1, 3)))) + " :"
        if rows[at].startswith("x := 0") and chance.random() < 0.7:
            many = chance.choice((4, 9, 10, 12))
            rows.insert(at, " ".join("%s%d := 0" % (chance.choice("no"), chance.randrange(12)) for _ in range(many)))
    return "\n".join(rows)


class DrawnPagesTest(unittest.TestCase):
    def test_the_first_of_all_faults(self):
        chance = random.Random(17)
        seen = {}
        for _ in range(500):
            book = Book()
            if chance.random() < 0.7:
                self.load(book, "first", Maker(chance).program(), {})
            text = Maker(chance).program()
            for old, new in zip(("Aa", "Bb", "Cc", "Dd"), ("Ee", "Ff", "Gg", "Hh")):
                text = text.replace(old, new)
            if book.kinds() and chance.random() < 0.7:
                mores = "\n".join(Maker(chance).more(book) for _ in range(chance.randrange(1, 5)))
                text = chance.choice((mores, mores + "\n" + text))
            self.load(book, "second", changed_text(chance, text), seen)
        for why in ("taken", "twice", "many", "kind", "ring", "clash", "name", "field"):
            self.assertGreater(seen.get(why, 0), 2, seen)

    def load(self, book, name, text, seen):
        """Load a page, and see that it's taken, or refused as the gathered faults say."""
        try:
            page = Page(name, text)
        except Fault:
            return
        faults = Gatherer(book, page).gather()
        try:
            told = book.load(name, text)
        except Fault as fault:
            self.assertEqual((fault.row, fault.column, fault.why), faults[0][:2] + faults[0][3:], text)
            seen[fault.why] = seen.get(fault.why, 0) + 1
        except Many:
            self.assertEqual(faults, [])
        else:
            self.assertEqual(faults, [], text)
            self.assertEqual(len(told), sum(len(tree[-1]) for tree in page.trees))
            seen["taken"] = seen.get("taken", 0) + 1


if __name__ == "__main__":
    unittest.main()
