"""Images: reading a stead that was written down, whatever is handed in as one."""

from sendstead.books import THING, book_from
from sendstead.bounds import MOST_KINDS, MOST_MESSAGES, MOST_PAGES, MOST_VERSIONS
from sendstead.cells import is_kind_word
from sendstead.errors import NoImage
from sendstead.forms import Outline, are_places, are_words, is_free_word
from sendstead.signs import is_page_name
from sendstead.steads import MOST_DEEP, MOST_ROOM, Stead
from sendstead.views import view_stands
from sendstead.worths import is_number_within, is_row


def read_image(thing, *, quick=False):
    """The stead that an image tells."""
    if not is_row(thing, 7) or not isinstance(thing[0], str) or thing[0] != "image":
        raise NoImage("it hasn't the form of an image")
    _, kinds, versions, pages, room, deep, view = thing
    if not (are_pages(pages) and are_kinds(kinds) and are_versions(versions)):
        raise NoImage("it has no kinds, versions and pages as told")
    if not do_names_stand(kinds, versions, pages):
        raise NoImage("its kinds, versions and pages don't go together")
    book = book_from(kinds, versions, pages)
    if not book.is_within_bounds():
        raise NoImage("no book has such kinds")
    if not is_number_within(room, 1, MOST_ROOM) or not is_number_within(deep, 1, MOST_DEEP):
        raise NoImage("no stead has such a room, or so many frames")
    # Each tree is gone over only once, as that is most of the work.
    outlines = [Outline(tree) for _, _, _, tree, _ in versions]
    if not all([is_outline_of(outline, version) for outline, version in zip(outlines, versions)]):
        raise NoImage("it has a version that is none")
    if not view_stands(book, outlines, room, deep, view):
        raise NoImage("it has no view as told")
    stead = Stead(quick=quick, room=room, deep=deep)
    stead.stand_as(book, view)
    return stead


def are_pages(thing):
    """Whether it is a tuple of pages' names, each once, not too many."""
    if not isinstance(thing, tuple) or not all([isinstance(name, str) and is_page_name(name) for name in thing]):
        return False
    return len(thing) <= MOST_PAGES and len(set(thing)) == len(thing)


def are_kinds(thing):
    """Whether it is a tuple of kinds as images tell them, not too many."""
    return isinstance(thing, tuple) and len(thing) <= MOST_KINDS and all([is_kind(part) for part in thing])


def is_kind(thing):
    """Whether it has the form of a kind in an image."""
    if not is_row(thing, 4):
        return False
    kind, parent, own, heads = thing
    return is_kind_word(kind) and is_kind_word(parent) and are_words(own) and are_heads(heads)


def are_heads(thing):
    """Whether it is a tuple of messages with versions, by messages, rising."""
    if not isinstance(thing, tuple) or not all([is_row(part, 2) for part in thing]) or len(thing) > MOST_MESSAGES:
        return False
    words = tuple([message for message, _ in thing])
    if not are_words(words) or not all([one < other for one, other in zip(words, words[1:])]):
        return False
    return all([is_number_within(version, 0, MOST_VERSIONS) for _, version in thing])


def are_versions(thing):
    """Whether it is a tuple of versions, not too many."""
    return isinstance(thing, tuple) and len(thing) <= MOST_VERSIONS and all([is_version(part) for part in thing])


def is_version(thing):
    """Whether it has the form of a version, whatever stands in the places of its tree and of that one's places."""
    if not is_row(thing, 5):
        return False
    kind, message, page, _, _ = thing
    return is_kind_word(kind) and is_free_word(message) and isinstance(page, str)


def is_outline_of(outline, version):
    """Whether a version, whose tree has this outline, has the tree of a method and a place for each of its nodes."""
    _, message, _, tree, places = version
    return outline.stands and tree[1] == message and are_places(places, len(outline.nodes))


def do_names_stand(kinds, versions, pages):
    """Whether kinds, pages and versions that are named in these are there, and no kind is there twice."""
    names = [kind for kind, _, _, _ in kinds]
    if THING in names or len(set(names)) != len(names):
        return False
    if not all([parent in (THING, *names) for _, parent, _, _ in kinds]):
        return False
    if not all([kind in names and page in pages for kind, _, page, _, _ in versions]):
        return False
    heads = [(kind, message, version) for kind, _, _, all_heads in kinds for message, version in all_heads]
    return all([version < len(versions) and versions[version][:2] == (kind, word) for kind, word, version in heads])
