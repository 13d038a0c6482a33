"""Desks: deeds as texts, which are done whole or not at all."""

from sendstead.deeds import figures_of, is_deed, is_figures, number_of, worth_of_word, word_of_worth
from sendstead.errors import NoDeed, SteadError, Undone


def deed_text(deed):
    """The text of a deed."""
    if not is_deed(deed):
        raise NoDeed("it is no deed")
    word, *rest = deed
    if word == "load":
        page, text = rest
        rows = [f"load {page}", *[f" {row}" for row in text.split("\n")]]
    else:
        rows = [" ".join([word, *words_of_deed(word, rest)])]
    return "".join([f"{row}\n" for row in rows])


def words_of_deed(word, rest):
    """The words of a deed's row behind its first one."""
    if word == "begin":
        kind, message, worths = rest
        return ["-" if kind is None else kind, message, *[word_of_worth(worth) for worth in worths]]
    if word == "run":
        beats, marks = rest
        return [figures_of(beats), *[f"{page}:{figures_of(row)}" for page, row in marks]]
    if word in ("name", "field"):
        return [*[word_of_part(part) for part in rest[:-1]], word_of_worth(rest[-1])]
    return [word_of_part(part) for part in rest]


def word_of_part(part):
    """The word of a part of a deed that is a number from 0 on or a word."""
    return part if isinstance(part, str) else figures_of(part)


def read_deeds(text):
    """The deeds of a text."""
    if not isinstance(text, str) or not (text == "" or text.endswith("\n")):
        raise NoDeed("it is no text of deeds")
    deeds = []
    lines = text.split("\n")[:-1]
    while lines:
        deed = deed_of_lines(lines)
        if deed is None or not is_deed(deed):
            raise NoDeed("it has a row that is no deed's")
        deeds.append(deed)
        del lines[:many_lines(lines)]
    return tuple(deeds)


def many_lines(lines):
    """How many lines are those of the first deed: the rows of a page's text begin with a blank."""
    many = 1
    while many < len(lines) and lines[many].startswith(" "):
        many += 1
    return many


def deed_of_lines(lines):
    """What the first deed of the lines would be, right or wrong, or None."""
    word, *words = lines[0].split(" ")
    text_rows = [line[1:] for line in lines[1:many_lines(lines)]]
    if word == "load":
        return (word, *words, "\n".join(text_rows)) if text_rows else None
    return None if text_rows else deed_of_words(word, words)


def deed_of_words(word, words):
    """What the deed of these words would be, right or wrong, or None."""
    if word == "begin" and len(words) >= 2:
        kind, message, *worths = words
        return (word, None if kind == "-" else kind, message, tuple([worth_of_word(worth) for worth in worths]))
    if word == "run" and len(words) >= 1:
        return (word, number_of_word(words[0]), tuple([mark_of_word(mark) for mark in words[1:]]))
    if word == "name" and len(words) == 3:
        k, name, worth = words
        return (word, number_of_word(k), name, worth_of_word(worth))
    if word == "field" and len(words) == 3:
        kind, name, worth = words
        return (word, kind, name, worth_of_word(worth))
    if word == "again" and len(words) == 1:
        return (word, number_of_word(words[0]))
    return (word, *words)


def number_of_word(word):
    """The number that figures tell; other words as they stand."""
    return number_of(word) if is_figures(word) else word


def mark_of_word(word):
    """The page's name and row that a word tells; other words as they stand."""
    page, colon, row = word.partition(":")
    return (page, number_of_word(row)) if colon else word


def do(stead, deed):
    """Do a deed; what the stead tells."""
    if not is_deed(deed):
        raise NoDeed("it is no deed")
    word, *rest = deed
    if word == "begin":
        return stead.begin(*rest)
    if word == "run":
        beats, marks = rest
        return stead.run(beats, marks=marks)
    if word == "again":
        return stead.again(*rest)
    if word == "name":
        return stead.named(*rest)
    if word == "forget":
        return stead.forget()
    if word == "sweep":
        return stead.sweep()
    if word == "load":
        return stead.load(*rest)
    return do_edit(stead, word, rest)


def do_edit(stead, word, rest):
    """Do an edit; the leading's paper."""
    if word == "gone":
        return stead.gone(*rest)
    if word == "field":
        return stead.field(*rest)
    if word == "lost":
        return stead.lost(*rest)
    return stead.under(*rest)


class Desk:
    """Does texts of deeds on a stead, each whole or not at all."""

    def __init__(self, stead):
        self.stead = stead
        self.log = ()

    def do(self, text):
        """Do the deeds of a text; what each of them told."""
        deeds = read_deeds(text)
        ahead = self.stead.twin()
        told = []
        for at, deed in enumerate(deeds):
            try:
                told.append(do(self.stead, deed))
            except SteadError as refusal:
                self.stead = ahead
                self.log = (*self.log, (len(deeds), False))
                raise Undone(at) from refusal
        self.log = (*self.log, (len(deeds), True))
        return tuple(told)
