"""Edits of a book: [10], and the papers that they tell: [11]."""

import random
import unittest

from sendstead.books import Book
from sendstead.errors import Clash, Many, NoField, NoKind, NoMethod, NoWord, Ring, SteadError, Used
from sendstead.leadings import leads
from tests.books_help import BookCase, all_of, book_of

BOOK = """kind A under Thing field a field b
  method go : say @a end
  method to : end
end
kind B under A field c
  method on : @b := @c end
end
kind C under B end
kind D under Thing field d end
"""


class EditCase(BookCase):
    def setUp(self):
        self.book = book_of(BOOK)

    def refused(self, error, deed, *worths):
        self.assert_refused(error, self.book, deed, *worths)

    def assert_edit(self, rows, deed, *worths):
        """The edit is done, tells these rows, and is counted."""
        ahead, stamp = self.book.copy(), self.book.stamp()
        paper = getattr(self.book, deed)(*worths)
        self.assertEqual(paper, tuple(rows))
        self.assertTrue(all(type(worth) is type(worths[-1]) for *_, worth in paper) or deed != "field")
        self.assertEqual(self.book.stamp(), stamp + 1)
        self.assertIs(leads(ahead, self.book, paper), True)


class GoneTest(EditCase):
    def test_gone(self):
        self.assert_edit((), "gone", "A", "go")
        self.assertEqual(self.book.messages("A"), ("to",))
        self.assertIsNone(self.book.finds("B", "go"))
        self.assertEqual(self.book.version_of(0)[:3], ("A", "go", "a"))
        self.assertEqual(len(self.book), 3)
        self.refused(NoMethod, "gone", "A", "go")

    def test_the_one_further_up_is_found_then(self):
        self.book.load("x", "more C method go : end end")
        self.assertEqual(self.book.finds("C", "go"), 3)
        self.assert_edit((), "gone", "C", "go")
        self.assertEqual(self.book.finds("C", "go"), 0)

    def test_refused(self):
        for kind in ("X", "Thing", "a", ""):
            self.refused(NoKind, "gone", kind, "go")
            self.refused(NoKind, "gone", kind, "nope")
        self.refused(NoMethod, "gone", "A", "on")
        self.refused(NoMethod, "gone", "B", "go")
        self.refused(NoMethod, "gone", "D", "")


class FieldTest(EditCase):
    def test_field(self):
        rows = [("A", ("a", "b"), ("a", "b", "x"), 7), ("B", ("a", "b", "c"), ("a", "b", "x", "c"), 7),
                ("C", ("a", "b", "c"), ("a", "b", "x", "c"), 7)]
        self.assert_edit(rows, "field", "A", "x", 7)
        self.assertEqual(self.book.own("A"), ("a", "b", "x"))
        self.assertEqual(self.book.fields("C"), ("a", "b", "x", "c"))
        self.assert_edit([("D", ("d",), ("d", "a"), None)], "field", "D", "a", None)
        self.assert_edit([("C", ("a", "b", "x", "c"), ("a", "b", "x", "c", "y"), True)], "field", "C", "y", True)
        self.assert_edit([("D", ("d", "a"), ("d", "a", "e"), "hi")], "field", "D", "e", "hi")

    def test_words(self):
        for word in ("", "A", "x y", "@x", "'x", "1", "1a", "a_b", "x" * 13, "end", "self", "true", "none", "+"):
            self.refused(NoWord, "field", "D", word, 0)
            self.refused(NoKind, "field", "Thing", word, 0)
        self.assert_edit([("D", ("d",), ("d", "x" * 12), 0)], "field", "D", "x" * 12, 0)

    def test_clash(self):
        for kind, word in (("A", "a"), ("A", "c"), ("B", "b"), ("B", "c"), ("C", "a"), ("C", "c"), ("D", "d")):
            self.refused(Clash, "field", kind, word, 0)
        self.refused(NoKind, "field", "X", "a", 0)

    def test_many(self):
        for word in ("e", "f", "g"):
            self.book.field("D", word, 0)
        self.refused(Many, "field", "D", "h", 0)
        self.refused(Clash, "field", "D", "g", 0)
        self.refused(NoWord, "field", "D", "end", 0)

    def test_many_in_all(self):
        for kind, word in (("A", "x"), ("B", "y"), ("C", "z"), ("C", "w"), ("C", "v")):
            self.book.field(kind, word, 0)
        self.assertEqual(len(self.book.fields("C")), 8)
        for kind in ("A", "B", "C"):
            self.refused(Many, "field", kind, "x1", 0)
            self.refused(Clash, "field", kind, "w", 0)
        self.book.lost("C", "v")
        self.book.field("A", "v", 0)
        self.refused(Many, "field", "A", "u", 0)
        self.refused(Many, "field", "B", "u", 0)


class LostTest(EditCase):
    def test_lost(self):
        self.book.gone("A", "go")
        rows = [("A", ("a", "b"), ("b",), None), ("B", ("a", "b", "c"), ("b", "c"), None),
                ("C", ("a", "b", "c"), ("b", "c"), None)]
        self.assert_edit(rows, "lost", "A", "a")
        self.assert_edit([("D", ("d",), (), None)], "lost", "D", "d")
        self.assertEqual((self.book.own("A"), self.book.fields("D")), (("b",), ()))

    def test_refused(self):
        self.refused(NoKind, "lost", "X", "a")
        self.refused(NoKind, "lost", "Thing", "a")
        self.refused(NoField, "lost", "B", "a")
        self.refused(NoField, "lost", "A", "c")
        self.refused(NoField, "lost", "C", "")

    def test_used(self):
        self.refused(Used, "lost", "A", "a")
        # By a method of a kind beneath.
        self.refused(Used, "lost", "A", "b")
        self.refused(Used, "lost", "B", "c")
        self.book.load("x", "more B method on : end end")
        # Only an older version names them now.
        self.assert_edit([("B", ("a", "b", "c"), ("a", "b"), None), ("C", ("a", "b", "c"), ("a", "b"), None)],
                         "lost", "B", "c")
        self.book.lost("A", "b")
        self.refused(Used, "lost", "A", "a")
        self.book.gone("A", "go")
        self.book.lost("A", "a")

    def test_used_in_blocks(self):
        self.book.load("x", "more D method in : do { | if 1 then else do [ @d ] end } end end")
        self.refused(Used, "lost", "D", "d")


class UnderTest(EditCase):
    def test_under(self):
        rows = [("D", ("d",), ("a", "b", "c", "d"), None)]
        self.assert_edit(rows, "under", "D", "C")
        self.assertEqual((self.book.parent("D"), self.book.line("D")), ("C", ("D", "C", "B", "A")))
        self.assertEqual(self.book.finds("D", "go"), 0)
        self.assert_edit([("D", ("a", "b", "c", "d"), ("d",), None)], "under", "D", "Thing")
        self.assert_edit((), "under", "D", "Thing")
        self.assert_edit((), "under", "C", "B")
        self.assert_edit([("A", ("a", "b"), ("d", "a", "b"), None), ("B", ("a", "b", "c"), ("d", "a", "b", "c"), None),
                          ("C", ("a", "b", "c"), ("d", "a", "b", "c"), None)], "under", "A", "D")
        self.assertEqual(self.book.kinds(), ("A", "B", "C", "D"))

    def test_a_parent_without_fields_changes_none(self):
        self.book.load("x", "kind E under Thing end kind F under E end")
        self.assert_edit((), "under", "A", "F")
        self.assert_edit((), "under", "A", "E")

    def test_no_kind(self):
        for kind, parent in (("X", "A"), ("A", "X"), ("X", "X"), ("Thing", "A"), ("Thing", "Thing"), ("A", "")):
            self.refused(NoKind, "under", kind, parent)

    def test_ring(self):
        for kind, parent in (("A", "A"), ("A", "B"), ("A", "C"), ("B", "C"), ("D", "D")):
            self.refused(Ring, "under", kind, parent)

    def test_clash(self):
        self.book.field("D", "a", 0)
        self.refused(Clash, "under", "D", "C")
        # Of a kind beneath, too.
        self.refused(Clash, "under", "A", "D")
        self.book.load("x", "kind E under Thing end kind F under E field c end")
        self.refused(Clash, "under", "E", "C")
        self.refused(Ring, "under", "E", "F")

    def test_many(self):
        self.book.load("x", "kind E under Thing field e field f field g end kind F under E field h field i field j end")
        self.assert_edit([("E", ("e", "f", "g"), ("d", "e", "f", "g"), None),
                          ("F", ("e", "f", "g", "h", "i", "j"), ("d", "e", "f", "g", "h", "i", "j"), None)],
                         "under", "E", "D")
        self.refused(Many, "under", "E", "C")
        self.refused(Many, "under", "D", "C")
        self.refused(Many, "under", "A", "F")
        # Clash and many at once.
        self.book.field("F", "c", 0)
        self.refused(Clash, "under", "D", "B")

    def test_used(self):
        self.refused(Used, "under", "B", "Thing")
        self.refused(Used, "under", "B", "D")
        self.book.field("D", "b", 0)
        self.assert_edit([("B", ("a", "b", "c"), ("d", "b", "c"), None), ("C", ("a", "b", "c"), ("d", "b", "c"), None)],
                         "under", "B", "D")

    def test_many_ahead_of_used(self):
        self.book.load("x", "kind E under Thing field e field f field g field h end\n"
                            "kind F under E field i field j end kind G under B field k field l end")
        self.refused(Used, "under", "B", "E")
        self.refused(Many, "under", "B", "F")


class DrawnOutTest(unittest.TestCase):
    def test_long_rows_of_edits(self):
        """Papers are let by, what's refused changes nothing, and the book's bounds hold behind each edit."""
        chance = random.Random(7)
        many = 0
        for _ in range(40):
            book = book_of(BOOK, "kind E under D field e method x : say @d end end")
            for _ in range(40):
                ahead, told = book.copy(), all_of(book)
                deed, worths = made_edit(chance)
                try:
                    paper = getattr(book, deed)(*worths)
                except SteadError:
                    self.assertEqual(all_of(book), told)
                    continue
                many += 1
                self.assertIs(leads(ahead, book, paper), True, (deed, worths, paper))
                for kind in book.kinds():
                    words = book.fields(kind)
                    self.assertEqual(len(set(words)), len(words))
                    self.assertLessEqual((len(words), len(book.own(kind))), (8, 4))
        self.assertGreater(many, 300)


def made_edit(chance):
    kind = chance.choice("ABCDE")
    deed = chance.choice(("gone", "field", "field", "lost", "under", "under", "load"))
    if deed == "gone":
        return deed, (kind, chance.choice(("go", "to", "on", "x")))
    if deed == "field":
        return deed, (kind, chance.choice("abcdefgh"), chance.choice((None, 0, "t", False)))
    if deed == "lost":
        return deed, (kind, chance.choice("abcdefgh"))
    if deed == "load":
        return "lost", (kind, "a")
    return deed, (kind, chance.choice(["A", "B", "C", "D", "E", "Thing"]))


class EmptyBookTest(BookCase):
    def test_no_kinds(self):
        for deed, worths in (("gone", ("A", "a")), ("field", ("A", "a", 0)), ("lost", ("A", "a")), ("under", ("A", "A"))):
            self.assert_refused(NoKind, Book(), deed, *worths)


if __name__ == "__main__":
    unittest.main()
