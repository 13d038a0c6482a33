"""Made-up texts, right and wrong ones, judged by the form of [3] as it stands there."""

import random
import re
import unittest

from sendstead.errors import Fault
from sendstead.pages import Page
from tests.made_up import FORM, SORTS, laid_out, made_words, words_of_all

WORD = r"[(){}\[\]|+\-*/<=:]|:=|@?[a-z][a-z0-9]{0,11}|%s|%s|%s" % (SORTS["NAME"], SORTS["text"], SORTS["number"])
STRAY = (
    "end", "then", "else", "taken", "|", ":", ":=", "(", ")", "[", "]", "{", "}", "do", "if", "while", "try", "up",
    "new", "method", "field", "kind", "more", "a", "A", "@a", "@end", "1", "'a", "+", "=", "self", "none",
)
WRONG = (";", "-0", "007", "aB", "@", "a_b", "'a-b", "1000000000000", "abcdefghijklm", "\t")


def fits(sort, word):
    """Whether the word is the one of the form, or of the sort that the form tells."""
    return re.fullmatch(SORTS[sort], word) is not None if sort in SORTS else sort == word


def open_up(rows):
    """Rows of what may still come, with a word or a sort of words ahead."""
    found, todo = set(), list(rows)
    while todo:
        row = todo.pop()
        if row and row[0] in FORM:
            todo += [tuple(choice.split()) + row[1:] for choice in FORM[row[0]]]
        else:
            found.add(row)
    return found


def judged(words):
    """The number of the first wrong word and why it is so, or (None, None), or (None, "end")."""
    rows, ends, many_open = {("<text>",)}, [], 0
    for at, word in enumerate(words):
        if not re.fullmatch(WORD, word):
            return at, "sign"
        rows = {row[1:] for row in open_up(rows) if row and fits(row[0], word)}
        if not rows:
            return at, "word"
        if word in ("kind", "more", "method"):
            ends.append(0)
        elif word in ("if", "while", "try", "(", "[", "{"):
            ends.append(1)
            many_open += 1
            if many_open > 12:
                return at, "deep"
        elif word in ("end", ")", "]", "}"):
            many_open -= ends.pop()
    return None, None if () in open_up(rows) else "end"


def spoiled(chance, words):
    """The words with one of them gone, put in, put in the place of another, or with no more behind one."""
    at = chance.randrange(len(words) + 1)
    stray = chance.choice(WRONG if chance.random() < 0.15 else STRAY)
    return chance.choice((
        words[:at] + words[at + 1:], words[:at] + [stray] + words[at:], words[:at] + [stray] + words[at + 1:], words[:at],
    ))


class GrammarTest(unittest.TestCase):
    def check(self, words, marks, text, places):
        at, why = judged(words)
        rows = text.split("\n")
        if len(rows) > 300:
            return
        if why is None:
            self.check_right(Page("page", text), words, marks, places)
            return
        with self.assertRaises(Fault, msg=text) as caught:
            Page("page", text)
        place = (len(rows), len(rows[-1]) + 1) if why == "end" else places[at]
        fault = caught.exception
        self.assertEqual((fault.row, fault.column, fault.why), place + (why,), text)

    def check_right(self, page, words, marks, places):
        self.assertEqual(words_of_all(page.trees), words)
        if marks is None:
            return
        told = []
        for k, tree in enumerate(page.trees):
            told.append(("tree", page.place(k)))
            for m in range(len(tree[-1])):
                told.append(("method", page.method_place(k, m)))
                told += [("node", place) for place in page.node_places(k, m)]
        sorts = {"<kind>": "tree", "<more>": "tree", "<method>": "method", "<statement>": "node", "<e>": "node"}
        self.assertEqual(told, [(sorts[symbol], places[at]) for at, symbol in marks if symbol in sorts])

    def test_right_texts(self):
        chance = random.Random(1)
        for _ in range(400):
            words, marks = made_words(chance)
            self.check(words, marks, *laid_out(chance, words))

    def test_spoiled_texts(self):
        chance = random.Random(2)
        for _ in range(1500):
            words, _ = made_words(chance)
            for _ in range(chance.choice((1, 1, 2))):
                words = spoiled(chance, words)
            self.check(words, None, *laid_out(chance, words))

    def test_deep_texts(self):
        chance = random.Random(3)
        openers = ("do (", "do [", "do {|", "do (1 +", "if [", "if 1 then", "while 1 then", "try", "say (up go")
        inner = ("(", "[", "{|", "(1 +", "(up go")
        for _ in range(400):
            text = "more A method go :"
            for _ in range(chance.randrange(9, 18)):
                bare = text.rstrip().endswith((":", "then", "try", "|"))
                text += " " + chance.choice(openers if bare else inner)
            words = re.findall(r"[(){}\[\]|]|[^ (){}\[\]|]+", text)
            self.check(words, None, *laid_out(chance, words))


if __name__ == "__main__":
    unittest.main()
