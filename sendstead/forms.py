"""Forms of trees: whether whatever is handed in is the tree of a method that a text can have."""

from sendstead.bounds import MOST_NAMES, MOST_NODES, MOST_PARAMETERS
from sendstead.reading import MOST_OPEN, is_message
from sendstead.signs import MOST_COLUMNS, MOST_ROWS, is_free, is_kind_name
from sendstead.trees import (
    METHOD_CODE, codes_of, found_name, names_of, nodes_of, nodes_with_codes, parameters_of, scopes_of,
)
from sendstead.worths import is_number_within, is_plain, is_row, sort_of

STATEMENTS = ("set", "setfield", "do", "say", "return", "raise", "if", "while", "try")
EXPRESSIONS = (
    "number", "text", "truth", "none", "self", "name", "field", "new", "send", "up", "list", "block",
)
OPENING = ("if", "while", "try", "send", "up", "list", "block")
# For each sort of node what stands behind the sort in its tree.
PARTS = {
    "set": ("word", "e"), "setfield": ("word", "e"), "do": ("e",), "say": ("e",), "return": ("e",), "raise": ("e",),
    "if": ("e", "statements", "statements"), "while": ("e", "statements"),
    "try": ("statements", "word", "statements"),
    "number": ("number",), "text": ("text",), "truth": ("truth",), "none": (), "self": (), "name": ("word",),
    "field": ("word",), "new": ("kind",), "send": ("e", "message", "es"), "up": ("word", "es"), "list": ("es",),
    "block": ("words", "statements"),
}


def is_part(part, thing, left):
    """Whether a thing has the form of a part of a node, within which so many more may be open."""
    if part == "e":
        return is_node(thing, EXPRESSIONS, left)
    if part == "es":
        return are_nodes(thing, EXPRESSIONS, left)
    if part == "statements":
        return are_nodes(thing, STATEMENTS, left)
    if part == "words":
        return are_words(thing)
    if part in ("number", "text", "truth"):
        return sort_of(thing) == part and is_plain(thing)
    if not isinstance(thing, str):
        return False
    if part == "kind":
        return is_kind_name(thing)
    return is_message(thing) if part == "message" else is_free(thing)


def is_node(thing, sorts, left):
    """Whether a thing is the tree of a node of one of these sorts, within which so many more may be open."""
    if not isinstance(thing, tuple) or len(thing) == 0 or not isinstance(thing[0], str) or thing[0] not in sorts:
        return False
    parts = PARTS[thing[0]]
    inner = left - 1 if thing[0] in OPENING else left
    if inner < 0 or len(thing) != 1 + len(parts):
        return False
    return all([is_part(part, inside, inner) for part, inside in zip(parts, thing[1:])])


def are_nodes(thing, sorts, left):
    """Whether a thing is a tuple of trees of nodes of these sorts."""
    return isinstance(thing, tuple) and all([is_node(part, sorts, left) for part in thing])


def are_words(thing):
    """Whether a thing is a tuple of free words."""
    return isinstance(thing, tuple) and all([isinstance(word, str) and is_free(word) for word in thing])


def is_method(thing):
    """Whether a thing is the tree of a method that a book can have, whatever its fields and kinds."""
    if not is_row(thing, 4) or not isinstance(thing[0], str) or thing[0] != "method":
        return False
    _, message, parameters, statements = thing
    if not is_part("word", message, 0) or not are_words(parameters) or not are_nodes(statements, STATEMENTS, MOST_OPEN):
        return False
    if len(nodes_of(thing)) > MOST_NODES or len(names_of(thing)) > MOST_NAMES:
        return False
    return are_parameters_right(thing) and do_names_stand(thing)


def are_parameters_right(method):
    """Whether no row of parameters is too long or has one twice."""
    rows = [parameters_of(method, code) for code in codes_of(method)]
    return all([len(row) <= MOST_PARAMETERS and len(set(row)) == len(row) for row in rows])


def do_names_stand(method):
    """Whether each name of an e stands for something."""
    scopes = {code: scopes_of(method, code) for code in codes_of(method)}
    named = [(node[1], code) for node, code in nodes_with_codes(method) if node[0] == "name"]
    return all([found_name(scopes[code], word) is not None for word, code in named])


def are_places(thing, many):
    """Whether a thing is a tuple of so many places of a text, rising."""
    if not is_row(thing, many) or not all([is_row(place, 2) for place in thing]):
        return False
    rows = [is_number_within(row, 1, MOST_ROWS) for row, _ in thing]
    columns = [is_number_within(column, 1, MOST_COLUMNS) for _, column in thing]
    return all(rows) and all(columns) and all([one < other for one, other in zip(thing, thing[1:])])


def is_code(method, node):
    """Whether a thing is the number of a code of a method."""
    return is_number_within(node, METHOD_CODE, MOST_NODES) and node in codes_of(method)
