"""Pages: a text of a program that was read."""

from sendstead.reading import reader_of


class Page:
    """A text with its trees and the places of their parts."""

    def __init__(self, name, text):
        reader = reader_of(name, text)
        self.name = name
        self.text = text
        self.trees = reader.page_trees()
        self.words = reader.words
        self._starts = tuple(reader.starts)

    def _place_of(self, at):
        _, row, column = self.words[at]
        return row, column

    def place(self, k):
        """The place of tree k."""
        start, _ = self._starts[k]
        return self._place_of(start)

    def method_place(self, k, m):
        """The place of method m of tree k."""
        _, methods = self._starts[k]
        start, _ = methods[m]
        return self._place_of(start)

    def node_places(self, k, m):
        """The places of all nodes of method m of tree k."""
        _, methods = self._starts[k]
        _, nodes = methods[m]
        return tuple([self._place_of(start) for start in nodes])

    def __str__(self):
        return str(self.text)

    def __eq__(self, other):
        return isinstance(other, Page) and self.name == other.name and self.text == other.text
