"""Deeds: their forms, and the words of the worths in them."""

from sendstead.cells import is_number_from_0
from sendstead.reading import is_message
from sendstead.signs import FIGURES, MOST_ROWS, has_only, is_free, is_kind_name, is_number, is_page_name, is_text
from sendstead.steads import MOST_BEATS
from sendstead.worths import is_number_within, is_plain, is_row, sort_of

# For each sort of deed what stands behind the sort.
PARTS_OF_DEEDS = {
    "begin": ("kind or none", "message", "worths"), "run": ("beats", "marks"), "again": ("number",),
    "name": ("number", "word", "worth"), "forget": (), "gone": ("kind", "message"), "field": ("kind", "word", "worth"),
    "lost": ("kind", "word"), "under": ("kind", "kind"), "sweep": (), "load": ("page", "text"),
}
# Python reads and writes no numbers of very many figures at once, so these are read and written in parts of so many.
PART_FIGURES = 60
PART = 10 ** 60


def is_deed(thing):
    """Whether it is a deed as it is told."""
    if not isinstance(thing, tuple) or len(thing) == 0 or not isinstance(thing[0], str):
        return False
    parts = PARTS_OF_DEEDS.get(thing[0])
    if parts is None or len(thing) != 1 + len(parts):
        return False
    return all([is_part_of_deed(part, inside) for part, inside in zip(parts, thing[1:])])


def is_part_of_deed(part, thing):
    """Whether a thing is such a part of a deed."""
    if part == "kind or none":
        return thing is None or is_part_of_deed("kind", thing)
    if part == "beats":
        return is_number_within(thing, 0, MOST_BEATS)
    if part == "number":
        return is_number_from_0(thing)
    if part == "worth":
        return is_plain(thing)
    if part == "worths":
        return isinstance(thing, tuple) and all([is_plain(worth) for worth in thing])
    if part == "marks":
        return isinstance(thing, tuple) and all([is_mark(mark) for mark in thing])
    return isinstance(thing, str) and is_word_of_deed(part, thing)


def is_mark(thing):
    """Whether it is a page's name with a row of a text."""
    return is_row(thing, 2) and is_part_of_deed("page", thing[0]) and is_number_within(thing[1], 1, MOST_ROWS)


def is_word_of_deed(part, word):
    """Whether a text is such a part of a deed."""
    if part == "kind":
        return is_kind_name(word)
    if part == "message":
        return is_message(word)
    if part == "word":
        return is_free(word)
    return is_page_name(word) if part == "page" else True


def is_figures(word):
    """Whether it is a number from 0 on, without needless noughts."""
    if word == "" or not has_only(word, FIGURES):
        return False
    return word == "0" or not word.startswith("0")


def number_of(figures):
    """The number from 0 on that figures tell, however many."""
    first = len(figures) % PART_FIGURES
    number = int("0" + figures[:first])
    for at in range(first, len(figures), PART_FIGURES):
        number = number * PART + int(figures[at:at + PART_FIGURES])
    return number


def figures_of(number):
    """The figures of a number from 0 on, however many."""
    parts = []
    while number >= PART:
        number, part = divmod(number, PART)
        parts.append(str(part).zfill(PART_FIGURES))
    return "".join([str(number), *parts[::-1]])


def word_of_worth(worth):
    """The word of a plain worth."""
    sort = sort_of(worth)
    if sort == "text":
        return f"'{worth}"
    if sort == "truth":
        return "true" if worth else "false"
    return "none" if sort == "none" else str(worth)


def worth_of_word(word):
    """The worth that a word tells; other words as a tuple, which is no worth."""
    if word.startswith("'") and is_text(word[1:]):
        return word[1:]
    if word in ("true", "false"):
        return word == "true"
    if word == "none":
        return None
    return int(word) if is_number(word) else (word,)
