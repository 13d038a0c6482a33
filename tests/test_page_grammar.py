"""Made-up texts, right and wrong ones, judged by the form of [3] as it stands there."""

import random
import re
import unittest

from sendstead.errors import Fault
from sendstead.pages import Page

# Names in <> stand for what the form tells of them; all else are words or sorts of words.
FORM = {
    "<text>": ("", "<kind> <text>", "<more> <text>"),
    "<kind>": ("kind NAME under NAME <fields> <methods> end",),
    "<more>": ("more NAME <methods> end",),
    "<fields>": ("", "field w <fields>"),
    "<methods>": ("", "<method> <methods>"),
    "<method>": ("method w <ws> : <statements> end",),
    "<ws>": ("", "w <ws>"),
    "<statements>": ("", "<statement> <statements>"),
    "<statement>": (
        "do <e>", "w := <e>", "@w := <e>", "say <e>", "return <e>", "raise <e>",
        "if <e> then <statements> else <statements> end", "while <e> then <statements> end",
        "try <statements> taken w <statements> end",
    ),
    "<e>": (
        "none", "number", "text", "true", "false", "self", "w", "@w", "new NAME",
        "( <e> <message> <es> )", "( up w <es> )", "[ <es> ]", "{ <ws> | <statements> }",
    ),
    "<es>": ("", "<e> <es>"),
    "<message>": ("w", "+", "-", "*", "/", "<", "="),
}
KEPT = (
    "kind|under|more|field|method|end|if|then|else|while|do|try|taken|return|raise|say|new|self|up|true|false|none"
)
FREE = r"(?!(?:%s)$)[a-z][a-z0-9]{0,11}" % KEPT
SORTS = {
    "NAME": r"[A-Z][A-Za-z0-9]{0,11}", "w": FREE, "@w": "@" + FREE, "text": r"'[A-Za-z0-9_]{0,40}",
    "number": r"0|-?[1-9][0-9]{0,11}",
}
WORD = r"[(){}\[\]|+\-*/<=:]|:=|@?[a-z][a-z0-9]{0,11}|%s|%s|%s" % (SORTS["NAME"], SORTS["text"], SORTS["number"])
SAMPLES = {
    "NAME": ("A", "Bee", "Thing"), "w": ("a", "go", "x1"), "@w": ("@a", "@go"), "text": ("'", "'hi", "'end"),
    "number": ("0", "-7", "42"),
}
STRAY = (
    "end", "then", "else", "taken", "|", ":", ":=", "(", ")", "[", "]", "{", "}", "do", "if", "while", "try", "up",
    "new", "method", "field", "kind", "more", "a", "A", "@a", "@end", "1", "'a", "+", "=", "self", "none",
)
WRONG = (";", "-0", "007", "aB", "@", "a_b", "'a-b", "1000000000000", "abcdefghijklm", "\t")


def fits(sort, word):
    """Whether the word is the one of the form, or of the sort that the form tells."""
    return re.fullmatch(SORTS[sort], word) is not None if sort in SORTS else sort == word


def open_up(rows):
    """Rows of what may still come, with a word or a sort of words ahead."""
    found, todo = set(), list(rows)
    while todo:
        row = todo.pop()
        if row and row[0] in FORM:
            todo += [tuple(choice.split()) + row[1:] for choice in FORM[row[0]]]
        else:
            found.add(row)
    return found


def judged(words):
    """The number of the first wrong word and why it is so, or (None, None), or (None, "end")."""
    rows, ends, many_open = {("<text>",)}, [], 0
    for at, word in enumerate(words):
        if not re.fullmatch(WORD, word):
            return at, "sign"
        rows = {row[1:] for row in open_up(rows) if row and fits(row[0], word)}
        if not rows:
            return at, "word"
        if word in ("kind", "more", "method"):
            ends.append(0)
        elif word in ("if", "while", "try", "(", "[", "{"):
            ends.append(1)
            many_open += 1
            if many_open > 12:
                return at, "deep"
        elif word in ("end", ")", "]", "}"):
            many_open -= ends.pop()
    return None, None if () in open_up(rows) else "end"


def made(chance, symbol, left, words, marks):
    """Adds words of the form; marks gets where trees, methods, statements and es begin."""
    if symbol in SORTS:
        words.append(chance.choice(SAMPLES[symbol]))
    elif symbol not in FORM:
        words.append(symbol)
    else:
        marks.append((len(words), symbol))
        row = choices = FORM[symbol]
        if choices[0] == "":
            row = choices[:1] if chance.random() < 0.3 else choices[1:]
        if left <= 0 or len(words) > 250:
            row = choices[:1]
        for part in chance.choice(row).split():
            made(chance, part, left - 1 if choices[0] else left, words, marks)


def laid_out(chance, words):
    """A text of the words, and the places at which they stand."""
    rows, places = [" " * chance.randrange(3)], []
    for word in words:
        if len(rows[-1]) + len(word) > 100 or chance.random() < 0.1:
            rows += [""] * chance.choice((0, 0, 0, 1, 2)) + [" " * chance.randrange(4)]
        # A bracket needs no blank beside it.
        alone = rows[-1][-1:] in ("", " ", "(", ")", "{", "}", "[", "]", "|") or word in "(){}[]|"
        rows[-1] += " " * (chance.randrange(3) if alone else chance.randrange(1, 3))
        places.append((len(rows), len(rows[-1]) + 1))
        rows[-1] += word
    rows[-1] += " " * chance.randrange(3)
    rows += [""] * chance.choice((0, 0, 1, 2))
    return "\n".join(rows), places


def written(tree):
    """The words of a tree, by [4]."""
    sort, parts = tree[0], tree[1:]
    if sort == "kind":
        name, parent, fields, methods = parts
        rows = [["field", word] for word in fields] + [written(method) for method in methods]
        return ["kind", name, "under", parent] + sum(rows, []) + ["end"]
    if sort == "more":
        return ["more", parts[0]] + all_written(parts[1]) + ["end"]
    if sort == "method":
        return ["method", parts[0], *parts[1], ":"] + all_written(parts[2]) + ["end"]
    if sort in ("set", "setfield"):
        return ["@" * (sort == "setfield") + parts[0], ":="] + written(parts[1])
    if sort in ("do", "say", "return", "raise"):
        return [sort] + written(parts[0])
    if sort == "if":
        return ["if"] + written(parts[0]) + ["then"] + all_written(parts[1]) + ["else"] + all_written(parts[2]) + ["end"]
    if sort == "while":
        return ["while"] + written(parts[0]) + ["then"] + all_written(parts[1]) + ["end"]
    if sort == "try":
        return ["try"] + all_written(parts[0]) + ["taken", parts[1]] + all_written(parts[2]) + ["end"]
    return expression_written(sort, parts)


def expression_written(sort, parts):
    if sort == "send":
        return ["("] + written(parts[0]) + [parts[1]] + all_written(parts[2]) + [")"]
    if sort == "up":
        return ["(", "up", parts[0]] + all_written(parts[1]) + [")"]
    if sort == "list":
        return ["["] + all_written(parts[0]) + ["]"]
    if sort == "block":
        return ["{", *parts[0], "|"] + all_written(parts[1]) + ["}"]
    if sort == "new":
        return ["new", parts[0]]
    if sort == "truth":
        return [{True: "true", False: "false"}[parts[0]]]
    ahead = {"text": "'", "field": "@"}
    return [ahead.get(sort, "") + str(parts[0])] if parts else [sort]


def all_written(trees):
    return [word for tree in trees for word in written(tree)]


def spoiled(chance, words):
    """The words with one of them gone, put in, put in the place of another, or with no more behind one."""
    at = chance.randrange(len(words) + 1)
    stray = chance.choice(WRONG if chance.random() < 0.15 else STRAY)
    return chance.choice((
        words[:at] + words[at + 1:], words[:at] + [stray] + words[at:], words[:at] + [stray] + words[at + 1:], words[:at],
    ))


class GrammarTest(unittest.TestCase):
    def check(self, words, marks, text, places):
        at, why = judged(words)
        rows = text.split("\n")
        if len(rows) > 300:
            return
        if why is None:
            self.check_right(Page("page", text), words, marks, places)
            return
        with self.assertRaises(Fault, msg=text) as caught:
            Page("page", text)
        place = (len(rows), len(rows[-1]) + 1) if why == "end" else places[at]
        fault = caught.exception
        self.assertEqual((fault.row, fault.column, fault.why), place + (why,), text)

    def check_right(self, page, words, marks, places):
        self.assertEqual(all_written(page.trees), words)
        if marks is None:
            return
        told = []
        for k, tree in enumerate(page.trees):
            told.append(("tree", page.place(k)))
            for m in range(len(tree[-1])):
                told.append(("method", page.method_place(k, m)))
                told += [("node", place) for place in page.node_places(k, m)]
        sorts = {"<kind>": "tree", "<more>": "tree", "<method>": "method", "<statement>": "node", "<e>": "node"}
        self.assertEqual(told, [(sorts[symbol], places[at]) for at, symbol in marks if symbol in sorts])

    def made_words(self, chance):
        words, marks = [], []
        made(chance, "<text>", chance.randrange(3, 12), words, marks)
        return words, marks

    def test_right_texts(self):
        chance = random.Random(1)
        for _ in range(400):
            words, marks = self.made_words(chance)
            self.check(words, marks, *laid_out(chance, words))

    def test_spoiled_texts(self):
        chance = random.Random(2)
        for _ in range(1500):
            words, _ = self.made_words(chance)
            for _ in range(chance.choice((1, 1, 2))):
                words = spoiled(chance, words)
            self.check(words, None, *laid_out(chance, words))

    def test_deep_texts(self):
        chance = random.Random(3)
        openers = ("do (", "do [", "do {|", "do (1 +", "if [", "if 1 then", "while 1 then", "try", "say (up go")
        inner = ("(", "[", "{|", "(1 +", "(up go")
        for _ in range(400):
            text = "more A method go :"
            for _ in range(chance.randrange(9, 18)):
                bare = text.rstrip().endswith((":", "then", "try", "|"))
                text += " " + chance.choice(openers if bare else inner)
            words = re.findall(r"[(){}\[\]|]|[^ (){}\[\]|]+", text)
            self.check(words, None, *laid_out(chance, words))


if __name__ == "__main__":
    unittest.main()
