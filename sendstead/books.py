"""Books: kinds with their methods, all versions of these, and the edits of kinds."""

from sendstead.bounds import MOST_PAGES, MOST_VERSIONS
from sendstead.errors import Clash, Many, NoField, NoKind, NoMethod, NoWord, Ring, Used
from sendstead.kinds import Kinds
from sendstead.leadings import leading
from sendstead.looking import Looker
from sendstead.pages import Page
from sendstead.signs import is_free, is_page_name
from sendstead.trees import fields_named
from sendstead.writing import written

THING = "Thing"


class Book:
    """Kinds, in the order in which they came, and versions: each method that ever came."""

    def __init__(self):
        self._kinds = Kinds({}, {})
        # The versions of the present methods: for each kind by messages.
        self._heads = {}
        self._versions = []
        self._page_names = []
        self._stamp = 0

    def load(self, name, text):
        """Put the kinds and methods of a page in; the numbers of the versions that came."""
        if not isinstance(name, str) or not is_page_name(name) or name in self._page_names:
            raise NoWord("no further page can be called so")
        page = Page(name, text)
        kinds = with_kinds_of(self._kinds, page.trees)
        messages = {kind: list(self._heads.get(kind, ())) for kind in kinds.kinds()}
        Looker(page, (THING, *self._kinds.kinds()), kinds, messages).look_through()
        came = versions_of(page)
        first = len(self._versions)
        if first + len(came) > MOST_VERSIONS or len(self._page_names) == MOST_PAGES:
            raise Many("there would be more versions or pages than a book holds")
        self._kinds = kinds
        self._heads = {kind: dict(self._heads.get(kind, {})) for kind in kinds.kinds()}
        for kind, message, *rest in came:
            self._heads[kind][message] = len(self._versions)
            self._versions.append((kind, message, *rest))
        self._page_names.append(name)
        self._stamp += 1
        return tuple(range(first, len(self._versions)))

    def gone(self, kind, message):
        """Take a method out of its kind; the leading's paper."""
        self._must_have(kind)
        if message not in self._heads[kind]:
            raise NoMethod("the kind itself has no such message")
        del self._heads[kind][message]
        return self._lead_over(self._kinds, None)

    def field(self, kind, word, worth):
        """Give a kind a further own field, with this worth in the things that there are; the leading's paper."""
        self._must_have(kind)
        if not is_free(word):
            raise NoWord("no field can be called so")
        kinds = self._kinds
        return self._lead_over(kinds.with_kind(kind, kinds.parent(kind), (*kinds.own(kind), word)), worth)

    def lost(self, kind, word):
        """Take an own field out of a kind; the leading's paper."""
        self._must_have(kind)
        kinds = self._kinds
        if word not in kinds.own(kind):
            raise NoField("the kind has no such own field")
        own = tuple([other for other in kinds.own(kind) if other != word])
        return self._lead_over(kinds.with_kind(kind, kinds.parent(kind), own), None)

    def under(self, kind, parent):
        """Put a kind under another parent; the leading's paper."""
        self._must_have(kind)
        if parent != THING:
            self._must_have(parent)
        kinds = self._kinds
        if kind in kinds.line(parent):
            raise Ring("the kind is in the line of that parent")
        return self._lead_over(kinds.with_kind(kind, parent, kinds.own(kind)), None)

    def _must_have(self, kind):
        if not self._kinds.has(kind):
            raise NoKind("there is no such kind")

    def _lead_over(self, kinds, worth):
        """Let these kinds be the book's, where nothing refuses them; the leading's paper."""
        if kinds.clash():
            raise Clash("a field would be twice in the line of a kind")
        if kinds.are_too_many():
            raise Many("a kind would have too many fields")
        if self._would_miss(kinds):
            raise Used("a method names a field that would be missing")
        paper = leading(self._kinds, kinds, worth)
        self._kinds = kinds
        self._stamp += 1
        return paper

    def _would_miss(self, kinds):
        """Whether with these kinds a present method would name a field that its kind hasn't."""
        for kind, heads in self._heads.items():
            words = kinds.fields(kind)
            for version in heads.values():
                if any([word not in words for word in fields_named(self._tree(version))]):
                    return True
        return False

    def _tree(self, version):
        _, _, _, tree, _ = self._versions[version]
        return tree

    def kinds(self):
        """The names of all kinds, in the order in which they came."""
        return self._kinds.kinds()

    def parent(self, kind):
        """The parent of a kind."""
        self._must_have(kind)
        return self._kinds.parent(kind)

    def own(self, kind):
        """The own fields of a kind."""
        self._must_have(kind)
        return self._kinds.own(kind)

    def fields(self, kind):
        """All fields of a kind: those of its parent, then its own."""
        self._must_have(kind)
        return self._kinds.fields(kind)

    def line(self, kind):
        """The kind and those above it, without Thing."""
        self._must_have(kind)
        return self._kinds.line(kind)

    def messages(self, kind):
        """The messages of the kind's own methods, sorted."""
        self._must_have(kind)
        return tuple(sorted(list(self._heads[kind])))

    def finds(self, kind, message):
        """The version that a kind finds for a message, or None."""
        if kind == THING:
            return None
        for above in self.line(kind):
            if message in self._heads[above]:
                return self._heads[above][message]
        return None

    def version_of(self, v):
        """A version's kind, message, page's name, tree and places."""
        return self._versions[v]

    def pages(self):
        """The names of the pages, in the order in which they came."""
        return tuple(self._page_names)

    def stamp(self):
        """How many pages were loaded and edits done."""
        return self._stamp

    def copy(self):
        """Another book that stands alike."""
        book = Book()
        book._kinds = self._kinds
        book._heads = {kind: dict(heads) for kind, heads in self._heads.items()}
        book._versions = list(self._versions)
        book._page_names = list(self._page_names)
        book._stamp = self._stamp
        return book

    def is_told_as(self, other):
        """Whether images tell the same of another book; its stamp isn't looked at."""
        # A tree's words tell of each worth whether it's a number or a truth, so Python's == takes none for another.
        alike = self._kinds.are_as(other._kinds) and self._heads == other._heads
        return alike and self._versions == other._versions and self._page_names == other._page_names

    def is_within_bounds(self):
        """Whether its kinds are as they may be: without rings, no field twice in a line, not too many."""
        kinds = self._kinds
        endless = any([kinds.is_endless(kind) for kind in kinds.kinds()])
        return not (endless or kinds.clash() or kinds.are_too_many())

    def present_trees(self):
        """The trees of the present kinds, in their order, each one's methods by messages, rising."""
        return tuple([("kind", kind, self.parent(kind), self.own(kind), self._methods(kind)) for kind in self.kinds()])

    def _methods(self, kind):
        return tuple([self._tree(self._heads[kind][message]) for message in self.messages(kind)])

    def shown(self):
        """The present kinds, written."""
        return written(self.present_trees())

    def __len__(self):
        return len(self._versions)

    def __eq__(self, other):
        return isinstance(other, Book) and self.present_trees() == other.present_trees()


def book_from(kinds, versions, pages):
    """The book that has these kinds, each as (name, parent, own fields, messages with versions)."""
    book = Book()
    for kind, parent, own, heads in kinds:
        book._kinds = book._kinds.with_kind(kind, parent, own)
        book._heads[kind] = dict(heads)
    book._versions = list(versions)
    book._page_names = list(pages)
    return book


def with_kinds_of(kinds, trees):
    """The kinds with those of a page's trees behind them: of those told twice the first one."""
    for tree in trees:
        if tree[0] == "kind" and tree[1] != THING and not kinds.has(tree[1]):
            _, kind, parent, own, _ = tree
            kinds = kinds.with_kind(kind, parent, own)
    return kinds


def versions_of(page):
    """The versions that a page brings, in the order of its text."""
    return [
        (tree[1], method[1], page.name, method, page.node_places(k, m))
        for k, tree in enumerate(page.trees) for m, method in enumerate(tree[-1])
    ]
