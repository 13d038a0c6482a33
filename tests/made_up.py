"""Made-up texts by the form of [3], for tests of all that goes by texts and trees."""

from sendstead.pages import Page

# Names in <> stand for what the form tells of them; all else are words or sorts of words.
FORM = {
    "<text>": ("", "<kind> <text>", "<more> <text>"),
    "<kind>": ("kind NAME under NAME <fields> <methods> end",),
    "<more>": ("more NAME <methods> end",),
    "<fields>": ("", "field w <fields>"),
    "<methods>": ("", "<method> <methods>"),
    "<method>": ("method w <ws> : <statements> end",),
    "<ws>": ("", "w <ws>"),
    "<statements>": ("", "<statement> <statements>"),
    "<statement>": (
        "do <e>", "w := <e>", "@w := <e>", "say <e>", "return <e>", "raise <e>",
        "if <e> then <statements> else <statements> end", "while <e> then <statements> end",
        "try <statements> taken w <statements> end",
    ),
    "<e>": (
        "none", "number", "text", "true", "false", "self", "w", "@w", "new NAME",
        "( <e> <message> <es> )", "( up w <es> )", "[ <es> ]", "{ <ws> | <statements> }",
    ),
    "<es>": ("", "<e> <es>"),
    "<message>": ("w", "+", "-", "*", "/", "<", "="),
}
KEPT = (
    "kind|under|more|field|method|end|if|then|else|while|do|try|taken|return|raise|say|new|self|up|true|false|none"
)
FREE = r"(?!(?:%s)$)[a-z][a-z0-9]{0,11}" % KEPT
SORTS = {
    "NAME": r"[A-Z][A-Za-z0-9]{0,11}", "w": FREE, "@w": "@" + FREE, "text": r"'[A-Za-z0-9_]{0,40}",
    "number": r"0|-?[1-9][0-9]{0,11}",
}
SAMPLES = {
    "NAME": ("A", "Bee", "Thing"), "w": ("a", "go", "x1"), "@w": ("@a", "@go"), "text": ("'", "'hi", "'end"),
    "number": ("0", "-7", "42"),
}


def made(chance, symbol, left, words, marks):
    """Adds words of the form; marks gets where trees, methods, statements and es begin."""
    if symbol in SORTS:
        words.append(chance.choice(SAMPLES[symbol]))
    elif symbol not in FORM:
        words.append(symbol)
    else:
        marks.append((len(words), symbol))
        row = choices = FORM[symbol]
        if choices[0] == "":
            row = choices[:1] if chance.random() < 0.3 else choices[1:]
        if left <= 0 or len(words) > 250:
            row = choices[:1]
        for part in chance.choice(row).split():
            made(chance, part, left - 1 if choices[0] else left, words, marks)


def laid_out(chance, words):
    """A text of the words, and the places at which they stand."""
    rows, places = [" " * chance.randrange(3)], []
    for word in words:
        if len(rows[-1]) + len(word) > 100 or chance.random() < 0.1:
            rows += [""] * chance.choice((0, 0, 0, 1, 2)) + [" " * chance.randrange(4)]
        # A bracket needs no blank beside it.
        alone = rows[-1][-1:] in ("", " ", "(", ")", "{", "}", "[", "]", "|") or word in "(){}[]|"
        rows[-1] += " " * (chance.randrange(3) if alone else chance.randrange(1, 3))
        places.append((len(rows), len(rows[-1]) + 1))
        rows[-1] += word
    rows[-1] += " " * chance.randrange(3)
    rows += [""] * chance.choice((0, 0, 1, 2))
    return "\n".join(rows), places


def words_of_tree(tree):
    """The words of a tree, by [4]."""
    sort, parts = tree[0], tree[1:]
    if sort == "kind":
        name, parent, fields, methods = parts
        rows = [["field", word] for word in fields] + [words_of_tree(method) for method in methods]
        return ["kind", name, "under", parent] + sum(rows, []) + ["end"]
    if sort == "more":
        return ["more", parts[0]] + words_of_all(parts[1]) + ["end"]
    if sort == "method":
        return ["method", parts[0], *parts[1], ":"] + words_of_all(parts[2]) + ["end"]
    if sort in ("set", "setfield"):
        return ["@" * (sort == "setfield") + parts[0], ":="] + words_of_tree(parts[1])
    if sort in ("do", "say", "return", "raise"):
        return [sort] + words_of_tree(parts[0])
    if sort == "if":
        first, second = words_of_all(parts[1]), words_of_all(parts[2])
        return ["if"] + words_of_tree(parts[0]) + ["then"] + first + ["else"] + second + ["end"]
    if sort == "while":
        return ["while"] + words_of_tree(parts[0]) + ["then"] + words_of_all(parts[1]) + ["end"]
    if sort == "try":
        return ["try"] + words_of_all(parts[0]) + ["taken", parts[1]] + words_of_all(parts[2]) + ["end"]
    return words_of_e(sort, parts)


def words_of_e(sort, parts):
    if sort == "send":
        return ["("] + words_of_tree(parts[0]) + [parts[1]] + words_of_all(parts[2]) + [")"]
    if sort == "up":
        return ["(", "up", parts[0]] + words_of_all(parts[1]) + [")"]
    if sort == "list":
        return ["["] + words_of_all(parts[0]) + ["]"]
    if sort == "block":
        return ["{", *parts[0], "|"] + words_of_all(parts[1]) + ["}"]
    if sort == "new":
        return ["new", parts[0]]
    if sort == "truth":
        return [{True: "true", False: "false"}[parts[0]]]
    ahead = {"text": "'", "field": "@"}
    return [ahead.get(sort, "") + str(parts[0])] if parts else [sort]


def words_of_all(trees):
    return [word for tree in trees for word in words_of_tree(tree)]


def made_words(chance):
    """Words of a made-up text, and the numbers of those at which trees, methods, statements and es begin."""
    words, marks = [], []
    made(chance, "<text>", chance.randrange(3, 12), words, marks)
    return words, marks


def made_methods(chance, many):
    """Methods of made-up texts, each with all words of its text and the numbers of those at which its nodes begin."""
    for _ in range(many):
        words, marks = made_words(chance)
        text, _ = laid_out(chance, words)
        trees = Page("page", text).trees
        starts = []
        for at, symbol in marks:
            if symbol == "<method>":
                starts.append([])
            elif symbol in ("<statement>", "<e>"):
                starts[-1].append(at)
        methods = [method for tree in trees for method in tree[-1]]
        assert len(methods) == len(starts)
        yield from [(method, words, nodes) for method, nodes in zip(methods, starts)]


def method_of(statements, parameters=""):
    """The tree of a method with these statements."""
    ((_, _, (method,)),) = Page("page", "more A method go " + parameters + " :\n" + statements + "\nend end").trees
    return method
