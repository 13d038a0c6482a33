"""Writing: from trees to the rows of a text."""

MOST_SIGNS = 100
# Among words: the next one begins a row.
NEW_ROW = "\n"


def written(trees):
    """The text of these trees."""
    return "\n".join(rows_with(all_words(tree_words, trees)))


def rows_with(words):
    """The rows of a text that has these words."""
    rows = []
    begins = True
    for word in words:
        if word == NEW_ROW:
            begins = True
        elif begins or len(rows[-1]) + 1 + len(word) > MOST_SIGNS:
            rows.append(word)
            begins = False
        else:
            rows[-1] = f"{rows[-1]} {word}"
    return rows


def all_words(words_of_one, trees):
    """The words of several trees, one behind the other."""
    return [word for tree in trees for word in words_of_one(tree)]


def tree_words(tree):
    """The words of a kind or a more."""
    if tree[0] == "kind":
        _, name, parent, fields, methods = tree
        head = ["kind", name, "under", parent, *all_words(field_words, fields)]
    else:
        _, name, methods = tree
        head = ["more", name]
    return [NEW_ROW, *head, *all_words(method_words, methods), NEW_ROW, "end"]


def field_words(word):
    """The words of an own field."""
    return [NEW_ROW, "field", word]


def method_words(method):
    """The words of a method."""
    _, message, parameters, statements = method
    return [NEW_ROW, "method", message, *parameters, ":", *all_words(statement_words, statements), NEW_ROW, "end"]


def statement_words(node):
    """The words of a statement."""
    sort = node[0]
    if sort == "if":
        _, test, first, second = node
        head = ["if", *expression_words(test), "then", *all_words(statement_words, first)]
        return [NEW_ROW, *head, NEW_ROW, "else", *all_words(statement_words, second), NEW_ROW, "end"]
    if sort == "while":
        _, test, statements = node
        head = ["while", *expression_words(test), "then"]
        return [NEW_ROW, *head, *all_words(statement_words, statements), NEW_ROW, "end"]
    if sort == "try":
        _, first, word, second = node
        head = ["try", *all_words(statement_words, first)]
        return [NEW_ROW, *head, NEW_ROW, "taken", word, *all_words(statement_words, second), NEW_ROW, "end"]
    if sort == "set":
        head = [node[1], ":="]
    elif sort == "setfield":
        head = [f"@{node[1]}", ":="]
    else:
        head = [sort]
    return [NEW_ROW, *head, *expression_words(node[-1])]


def expression_words(node):
    """The words of an expression."""
    sort = node[0]
    if sort == "send":
        _, receiver, message, worths = node
        return ["(", *expression_words(receiver), message, *all_words(expression_words, worths), ")"]
    if sort == "up":
        _, message, worths = node
        return ["(", "up", message, *all_words(expression_words, worths), ")"]
    if sort == "list":
        _, worths = node
        return ["[", *all_words(expression_words, worths), "]"]
    if sort == "block":
        _, parameters, statements = node
        return ["{", *parameters, "|", *all_words(statement_words, statements), "}"]
    if sort == "new":
        _, kind = node
        return ["new", kind]
    return [leaf_word(node)]


def leaf_word(node):
    """The word of an expression that has no other."""
    if node[0] in ("none", "self"):
        return node[0]
    sort, worth = node
    if sort == "truth":
        return "true" if worth else "false"
    if sort == "text":
        return f"'{worth}"
    if sort == "field":
        return f"@{worth}"
    return str(worth)
