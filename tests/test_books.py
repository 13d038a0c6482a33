"""What a book has and tells: [6], [7], [9] where a page is taken, and copy, shown and ==."""

import random
import unittest

from sendstead.books import THING, Book
from sendstead.errors import Many, NoKind, NoWord
from sendstead.pages import Page
from tests.books_help import BookCase, all_of, book_of, page_name

SHAPES = """kind Shape under Thing
  field name
  method area : return 0 end
  method told by : say @name return by end
end
kind Square under Shape
  field side
  method area : return ( @side * @side ) end
end
"""


class BookTest(BookCase):
    def test_a_new_book_has_nothing(self):
        book = Book()
        self.assertEqual((book.kinds(), book.pages(), book.stamp(), len(book), book.shown()), ((), (), 0, 0, ""))
        self.assertEqual(THING, "Thing")

    def test_kinds_of_a_page(self):
        book = Book()
        self.assertEqual(book.load("shapes", SHAPES), (0, 1, 2))
        self.assertEqual(book.kinds(), ("Shape", "Square"))
        self.assertEqual((book.parent("Shape"), book.parent("Square")), ("Thing", "Shape"))
        self.assertEqual((book.own("Shape"), book.own("Square")), (("name",), ("side",)))
        self.assertEqual((book.fields("Shape"), book.fields("Square")), (("name",), ("name", "side")))
        self.assertEqual((book.line("Shape"), book.line("Square")), (("Shape",), ("Square", "Shape")))
        self.assertEqual((book.messages("Shape"), book.messages("Square")), (("area", "told"), ("area",)))
        self.assertEqual((book.pages(), book.stamp(), len(book)), (("shapes",), 1, 3))

    def test_versions(self):
        book = Book()
        book.load("shapes", SHAPES)
        page = Page("shapes", SHAPES)
        methods = [(k, m) for k in (0, 1) for m in range(len(page.trees[k][4]))]
        for version, (k, m) in enumerate(methods):
            _, kind, _, _, trees = page.trees[k]
            told = (kind, trees[m][1], "shapes", trees[m], page.node_places(k, m))
            self.assertEqual(book.version_of(version), told)
        self.assertEqual(book.version_of(0)[4], ((3, 17), (3, 24)))

    def test_finds(self):
        book = Book()
        book.load("shapes", SHAPES)
        self.assertEqual(book.finds("Square", "area"), 2)
        self.assertEqual(book.finds("Shape", "area"), 0)
        self.assertEqual(book.finds("Square", "told"), 1)
        self.assertIsNone(book.finds("Square", "what"))
        self.assertIsNone(book.finds("Thing", "area"))

    def test_a_message_put_anew_is_a_version_more(self):
        book = book_of(SHAPES)
        text = "more Square\n method area : return 7 end\n method told a b : end\nend"
        self.assertEqual(book.load("later", text), (3, 4))
        self.assertEqual(book.finds("Square", "area"), 3)
        self.assertEqual(book.finds("Square", "told"), 4)
        self.assertEqual(book.finds("Shape", "told"), 1)
        self.assertEqual(book.version_of(2)[:3], ("Square", "area", "a"))
        self.assertEqual(book.version_of(3)[:3], ("Square", "area", "later"))
        self.assertEqual(book.version_of(3)[3], ("method", "area", (), (("return", ("number", 7)),)))
        self.assertEqual((len(book), book.stamp(), book.pages()), (5, 2, ("a", "later")))
        self.assertEqual(book.messages("Square"), ("area", "told"))

    def test_all_comes_in_the_order_of_the_text(self):
        book = Book()
        text = ("more B method b : say 1 end end kind A under B field x method a : say @y end end "
                "kind B\nunder C field y method b : say 2 end method c : end end "
                "more A method z : say @w say @x end\nmethod a : end end kind C under Thing field w end")
        self.assertEqual(book.load("p", text), (0, 1, 2, 3, 4, 5))
        told = [book.version_of(v)[:2] for v in range(6)]
        self.assertEqual(told, [("B", "b"), ("A", "a"), ("B", "b"), ("B", "c"), ("A", "z"), ("A", "a")])
        self.assertEqual(book.kinds(), ("A", "B", "C"))
        self.assertEqual((book.fields("A"), book.line("A")), (("w", "y", "x"), ("A", "B", "C")))
        self.assertEqual((book.finds("A", "b"), book.finds("A", "a"), book.finds("B", "c")), (2, 5, 3))

    def test_pages_without_methods(self):
        book = Book()
        self.assertEqual(book.load("none", ""), ())
        self.assertEqual(book.load("kept", "kind A under Thing end\n"), ())
        self.assertEqual(book.load("method", "more A end more A end"), ())
        self.assertEqual((book.pages(), book.stamp(), len(book)), (("none", "kept", "method"), 3, 0))
        self.assertEqual(book.kinds(), ("A",))

    def test_names_of_pages(self):
        book = book_of(SHAPES)
        for name in ("", "A", "a1", "a b", "a_b", "x" * 13, "1", " ", "a\n", "\xe9", "a", None):
            self.assert_refused(NoWord, book, "load", name, "kind A under Thing end")
            # Ahead of all faults.
            self.assert_refused(NoWord, book, "load", name, "kind")
            self.assert_refused(NoWord, book, "load", name, "more Nope end")
        for name in ("b", "x" * 12, "end", "thing"):
            self.assertEqual(book.load(name, ""), ())

    def test_kinds_that_are_not_there(self):
        for book in (Book(), book_of(SHAPES)):
            for kind in ("A", "shape", "", "Shapes"):
                for deed in ("parent", "own", "fields", "line", "messages"):
                    self.assert_refused(NoKind, book, deed, kind)
                self.assert_refused(NoKind, book, "finds", kind, "area")
            for deed in ("parent", "own", "fields", "line", "messages"):
                self.assert_refused(NoKind, book, deed, "Thing")


class BoundsOfBooksTest(BookCase):
    def test_versions(self):
        book = book_of("kind A under Thing end")
        methods = " ".join("method %s : end" % page_name(at) for at in range(8))
        text = "more A\n" + methods.replace("end ", "end\n") + "\nend"
        for at in range(24):
            book.load("x" + page_name(at), text)
        self.assertEqual(len(book), 192)
        self.assert_refused(Many, book, "load", "more", text + " more A method a : end end")
        # Behind all faults.
        self.assert_fault(book, "word", text + "\nmore A method a : end method ^( : end end")
        self.assert_fault(book, "name", text + "\nmore A method a : say ^b end end")
        self.assertEqual(book.load("last", text)[-1], 199)
        self.assert_refused(Many, book, "load", "more", "more A method a : end end")
        self.assertEqual(book.load("more", "more A end"), ())
        self.assertEqual(len(book), 200)

    def test_pages(self):
        book = Book()
        for at in range(60):
            self.assert_taken(book, at)
        self.assert_refused(Many, book, "load", "more", "")
        self.assert_refused(NoWord, book, "load", page_name(3), "")
        self.assert_fault(book, "end", "kind^")
        self.assert_fault(book, "kind", "more ^B end")

    def assert_taken(self, book, at):
        self.assertEqual(book.load(page_name(at), ""), ())
        self.assertEqual(len(book.pages()), at + 1)

    def test_as_much_as_a_page_may_hold(self):
        names = ["n%d" % at for at in range(8)]
        sets = "\n".join("%s := a" % name for name in names)
        says = "\n".join("say { a b c d | say b }" for _ in range(42))
        method = "method m%d a b c d :\n" + sets + "\nend\n"
        big = "method big a :\n" + says.replace("say b }", "}") + "\n" + "\n".join("do a" for _ in range(33)) + "\nend\n"
        text = "kind A under Thing field a field b field c field d\n" + "\n".join(method % at for at in range(7)) + big
        text += "end kind B under A field e field f field g field h end\n"
        text += "\n".join("kind K%d under B end" % at for at in range(6))
        book = book_of(text)
        self.assertEqual((len(book.kinds()), len(book.fields("K5")), len(book)), (8, 8, 8))
        self.assertEqual(len(book.version_of(7)[4]), 150)


class CopyTest(BookCase):
    def test_a_copy_stands_alike_and_alone(self):
        for turn in (0, 1):
            book = book_of(SHAPES, "more Square method side : return @side end end")
            other = book.copy()
            self.assertIsInstance(other, Book)
            self.assertEqual(all_of(other), all_of(book))
            self.assertEqual(other, book)
            changed, kept = (book, other) if turn else (other, book)
            ahead = all_of(kept)
            changed.field("Shape", "color", 1)
            changed.gone("Shape", "told")
            changed.load("x", "kind Other under Square end more Shape method told : end end")
            changed.lost("Shape", "color")
            changed.under("Other", "Thing")
            self.assertEqual(all_of(kept), ahead)
            self.assertNotEqual(changed, kept)

    def test_equal(self):
        book = book_of(SHAPES)
        self.assertEqual(book_of(SHAPES), book)
        self.assertEqual(Book(), Book())
        # Neither pages, nor versions, nor stamps count.
        other = Book()
        other.load("z", "")
        other.load("y", SHAPES.replace("return 0", "return 1"))
        other.load("x", "more Shape method area : return 0 end end")
        self.assertEqual(other, book)
        other.gone("Shape", "area")
        self.assertNotEqual(other, book)
        self.assertNotEqual(book_of(SHAPES.replace("by", "be")), book)
        self.assertNotEqual(book_of(SHAPES.replace("return 0", "return none")), book)
        self.assertNotEqual(book_of(SHAPES.replace("field side", "field side field top")), book)
        self.assertNotEqual(book_of(SHAPES + "kind A under Thing end"), book)
        one, two = "kind A under Thing end kind B under ", " end"
        self.assertNotEqual(book_of(one + "A" + two), book_of(one + "Thing" + two))
        for thing in (None, "", SHAPES, [], (), 0, 3, book.shown(), book.kinds(), object()):
            self.assertFalse(book == thing)
            self.assertTrue(book != thing)

    def test_truths_and_numbers_are_not_equal(self):
        texts = ["kind A under Thing method a : return %s end end" % word for word in ("1", "true", "'1", "'true", "0")]
        books = [book_of(text) for text in texts]
        for one, book in enumerate(books):
            for other in range(len(books)):
                self.assertEqual(book == books[other], one == other)


class ShownTest(BookCase):
    def test_shown(self):
        book = book_of(SHAPES, "more Shape method all : return none end method area : return 1 end end")
        book.gone("Square", "area")
        text = ("kind Shape under Thing\nfield name\nmethod all :\nreturn none\nend\nmethod area :\nreturn 1\nend\n"
                "method told by :\nsay @name\nreturn by\nend\nend\nkind Square under Shape\nfield side\nend")
        self.assertEqual(book.shown(), text)

    def test_read_again_it_is_equal(self):
        chance = random.Random(3)
        for _ in range(60):
            book = made_book(chance)
            again = Book()
            again.load("again", book.shown())
            self.assertEqual(again, book)
            self.assertEqual(again.kinds(), book.kinds())
            self.assertEqual(again.shown(), book.shown())


def made_book(chance):
    """A book that was loaded and edited."""
    book = Book()
    kinds = ["K%d" % at for at in range(chance.randrange(1, 5))]
    text = ""
    for at, kind in enumerate(kinds):
        parent = chance.choice(["Thing"] + kinds[:at])
        methods = "".join("method %s a : say [ a %d ] end\n" % (word, at) for word in chance.sample("pqrs", 2))
        text += "kind %s under %s\nfield f%d\n%send\n" % (kind, parent, at, methods)
    book.load("first", text)
    for at in range(chance.randrange(4)):
        book.load("m" + page_name(at), "more %s method %s : end end" % (chance.choice(kinds), chance.choice("pqt")))
        kind = chance.choice(kinds)
        if book.messages(kind):
            book.gone(kind, chance.choice(book.messages(kind)))
        if len(book.own(kind)) < 3:
            book.field(kind, "g%d" % at, at)
    return book


if __name__ == "__main__":
    unittest.main()
