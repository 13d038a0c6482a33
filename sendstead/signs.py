"""The signs and words of a program's text."""

from sendstead.errors import Fault

BIG = 10 ** 12
MOST_ROWS = 300
MOST_COLUMNS = 120
MOST_TEXT_SIGNS = 40
MOST_NAME_SIGNS = 12

SMALL = "abcdefghijklmnopqrstuvwxyz"
CAPITALS = "ABCDEFGHIJKLMNOPQRSTUVWXYZ"
FIGURES = "0123456789"
SMALL_SIGNS = "abcdefghijklmnopqrstuvwxyz0123456789"
KIND_SIGNS = "abcdefghijklmnopqrstuvwxyzABCDEFGHIJKLMNOPQRSTUVWXYZ0123456789"
TEXT_SIGNS = "abcdefghijklmnopqrstuvwxyzABCDEFGHIJKLMNOPQRSTUVWXYZ0123456789_"

BRACKETS = ("(", ")", "{", "}", "[", "]", "|")
MARKS = ("+", "-", "*", "/", "<", "=", ":=", ":")
KEPT = (
    "do", "else", "end", "false", "field", "if", "kind", "method", "more", "new", "none",
    "raise", "return", "say", "self", "taken", "then", "true", "try", "under", "up", "while",
)


def words_of(text):
    """All words of a text, each as (word, row, column); a Fault if one is none."""
    words, wrong = scanned(text)
    if wrong is not None:
        row, column = wrong
        raise Fault("", row, column, "sign")
    return words


def scanned(text):
    """The words ahead of the first fault "sign", and the place of that fault or None."""
    rows = text.split("\n")
    words = []
    for row, line in enumerate(rows[:MOST_ROWS], start=1):
        parts = words_of_row(line)
        wrong = wrong_column(parts, len(line))
        words.extend([(word, row, column) for word, column in parts if wrong is None or column < wrong])
        if wrong is not None:
            return tuple(words), (row, wrong)
    if len(rows) > MOST_ROWS:
        return tuple(words), (MOST_ROWS + 1, 1)
    return tuple(words), None


def words_of_row(line):
    """The words of one row, each as (word, column), whether right or wrong."""
    parts = []
    start = 0
    # The blank behind the row ends a word that goes up to the row's end.
    for at, sign in enumerate(line + " "):
        if sign == " " or sign in BRACKETS:
            if start < at:
                parts.append((line[start:at], start + 1))
            if sign != " ":
                parts.append((sign, at + 1))
            start = at + 1
    return parts


def wrong_column(parts, length):
    """The column of the first fault of a row that has these words and that many signs, or None."""
    columns = [column for word, column in parts if not is_word(word)]
    if length > MOST_COLUMNS:
        columns.append(MOST_COLUMNS + 1)
    return min(columns, default=None)


def end_place(text):
    """The place behind the last sign of the text's last row."""
    rows = text.split("\n")
    return len(rows), len(rows[-1]) + 1


def is_word(word):
    """Whether it is a word that may stand somewhere in a text."""
    if word in BRACKETS or word in MARKS:
        return True
    if word.startswith("@"):
        return is_small(word[1:])
    if word.startswith("'"):
        return is_text(word[1:])
    return is_small(word) or is_kind_name(word) or is_number(word)


def is_small(word):
    """Whether it is a small word, kept or free."""
    return is_name(word, SMALL, SMALL_SIGNS)


def is_free(word):
    """Whether it is a small word that isn't kept."""
    return is_small(word) and word not in KEPT


def is_kind_name(word):
    """Whether it is the name of a kind by its signs."""
    return is_name(word, CAPITALS, KIND_SIGNS)


def is_page_name(word):
    """Whether it is the name of a page by its signs."""
    return is_name(word, SMALL, SMALL)


def is_name(word, first, others):
    """Whether it begins with one of the first signs, and goes on with others, not too long."""
    return 1 <= len(word) <= MOST_NAME_SIGNS and word[0] in first and has_only(word, others)


def is_text(signs):
    """Whether these are the signs of a text that is a worth."""
    return len(signs) <= MOST_TEXT_SIGNS and has_only(signs, TEXT_SIGNS)


def is_number(word):
    """Whether it is a number of a program, without needless noughts."""
    figures = word.removeprefix("-")
    # Python refuses to read very many figures, and so many are beyond BIG anyhow.
    if not 1 <= len(figures) <= len(str(BIG)) or not has_only(figures, FIGURES):
        return False
    number = int(word)
    return str(number) == word and -BIG < number < BIG


def has_only(word, signs):
    """Whether each sign of the word is one of these signs."""
    # Nothing is left of such a word when all of these signs are stripped off its ends, and this is quick.
    return word.strip(signs) == ""
