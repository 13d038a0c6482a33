"""What several tests of books need."""

import unittest

from sendstead.books import Book
from sendstead.errors import Fault, SteadError


def book_of(*texts):
    """A book with these texts, on pages a, b and so on."""
    book = Book()
    for at, text in enumerate(texts):
        book.load(page_name(at), text)
    return book


def page_name(at):
    return "".join("abcdefghij"[int(figure)] for figure in str(at))


def all_of(book):
    """All that a book tells."""
    kinds = tuple(
        (kind, book.parent(kind), book.own(kind), book.fields(kind), book.line(kind),
         tuple((message, book.finds(kind, message)) for message in book.messages(kind)))
        for kind in book.kinds()
    )
    versions = tuple(book.version_of(v) for v in range(len(book)))
    return kinds, versions, book.pages(), book.stamp(), book.shown()


def marked(text):
    """A text without its mark ^, and the row and column at which that stands."""
    ahead, mark, _ = text.partition("^")
    assert mark, text
    rows = ahead.split("\n")
    return text.replace("^", ""), (len(rows), len(rows[-1]) + 1)


class BookCase(unittest.TestCase):
    def assert_refused(self, error, book, deed, *worths):
        """A book's deed is refused with just this error, and changes nothing."""
        ahead = all_of(book)
        with self.assertRaises(SteadError) as caught:
            getattr(book, deed)(*worths)
        self.assertIs(type(caught.exception), error, (deed, worths, caught.exception))
        self.assertEqual(all_of(book), ahead)

    def assert_fault(self, book, why, text, name="new"):
        """A page is refused with this fault at the mark ^ of its text, and nothing changes."""
        text, (row, column) = marked(text)
        ahead = all_of(book)
        with self.assertRaises(Fault) as caught:
            book.load(name, text)
        told = caught.exception
        self.assertEqual((told.page, told.row, told.column, told.why), (name, row, column, why), text)
        self.assertEqual(all_of(book), ahead)
